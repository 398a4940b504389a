import PyProof.Rows.All
import Wide.All
import OpenK.AllK
import Wide.FinOn
import Lean
import PyProof.EqAt
import PyProof.EqKinds
import PyProof.TupleCall
import PySem.Syntax
import PyProof.Rows.ZipGen
import PyProof.EnumMake
import PyProof.EnumFor
import PyProof.Rows.EnumRows
import PyProof.DictValues
import KE.KSortTup
import PyProof.Rows.SetFrom
import PyProof.WalksMore
import PyProof.FactsAll.set
import PyProof.ForAny
import PyProof.CollectWalk
import PyProof.ListRange
import PyProof.Rows.SortShell
import PyProof.AttrMissHeap
import PySem.Challenge.RW_lamprota_k19_sides
open PySem renaming wpAny_bind → AA, wpAny_pure → AD, wpAny_callSpecial?_slot → BA, wpAny_newObj_type → BB, wpAny_setField_rec → BH, wpAny_call_entry → BK, wpAny_field → BS, codeAny_builtin → BW, wpAny_seqItems → CC, wpAny_holding → CP, wpAny_truthy_bool → CW, wpAny_setState_of → CZ, wpAny_mono → Da, mem_of_lookup → Db, wpAny_setEntries_of → Do, wpAny_askSetting → DB, isSubtype_type → DC, codeAny_mono → DE, wpAny_Call_Name_kw → DF, wpAny_loadPart' → DI, wpAny_attempt → DM, plainId_quiet → DN, builtinLookup_eq_fast → DQ, wpAny_passesOwn → EA, sizeLine_eq → EE, wpAny_of_eq → EH, richCompare_meets_room → EJ, wpAny_rule → EO, wpAny_isInstance → ER, wpAny_updateSeq_pair → EV, codeAny_of_tree → EY, typeLookup_type → EZ, wpAny_typeOf → FB, wpAny_pyIter_tuple → FJ, wpAny_fieldsOf → FK, wpAny_pyIter_list → FT, wpAny_onRaise → FX, wpAny_forIn_list → FY, noFill_tuple_add → FZ, entryFor_of_tree → GC, call_meets → GG
open PySem.Heap renaming get?_push_of_some → AB, lt_size → AF, get?_push_size → AG, size_push → CJ, get?_update_self → DP, get?_update_ne → DV
open List renaming getElem?_eq_getElem → AC, size_toArray → AE, prefix_refl → AH, mem_cons → AJ, getElem?_eq_some_iff → AK, mem_cons_self → AM, mem_cons_of_mem → AN, getElem?_append_left → AR, pairwise_cons → AS, all_eq_true → AT, getD_eq_getElem?_getD → AU, length_map → AV, map_cons → AZ, not_mem_nil → BD, mem_append_right → BI, length_cons → BJ, getElem?_map → BN, all_cons → BO, foldl_cons → BR, getElem?_set_ne → BY, getElem_mem → BZ, getElem?_append_right → CB, length_nil → CD, nil_prefix → CF, length_append → CH, zip_cons_cons → CI, getElem?_replicate → CK, replicate_succ → CL, getElem?_set_self → CM, any_cons → CQ, lookup_cons → DA, take_of_length_le → DH, find?_cons → DJ, getElem?_eq_none → DO, flatten_cons → DR, mem_of_getElem? → DS, length_take → DT, mem_append → Ev, nodup_cons → EB, forIn_cons → EC, map_append → ED, length_eq_zero_iff → EG, map_nil → EL, mem_iff_getElem → ET, filterMap_cons → FA, all_map → FC, map_map → FE, zip_nil_right → FI, mem_singleton → FL, drop_eq_getElem_cons → FM, getLastD_eq_getLast? → FN, zip_nil_left → FP, nodup_append → FR, ext_getElem? → FU, getElem?_take_of_lt → FW, take_length → Go, any_eq_true → Gt, range_succ_eq_map → GH, mem_map → GI, pairwise_lt_range → GJ, of_mem_zip → GN, length_replicate → GP, length_singleton → GQ, getElem?_toArray → GR, map_drop → GX
open Nat renaming ne_of_lt → AI, le_refl → AL, lt_of_lt_of_le → AO, le_trans → BV, lt_irrefl → CA, ne_of_gt → CN, lt_succ_of_lt → CY, le_of_lt → DD, lt_succ_self → EN, le_succ → EU, zero_le → FS
open Bool renaming false_eq_true → AQ, false_ne_true → AW, and_eq_true → AX, beq_eq_decide_eq → BP
open PySem.W renaming mg_none_of → AY, kia_one → DK, cellsFrom_some → GF
open Option.some renaming injEq → BC, inj → BF
open PyProof.Rows renaming slot_tuple_getitem → BL, callWith_type1 → CO, callWith_builtin1 → EM
open Array renaming length_toList → BM, getElem?_eq_getElem → CG, getElem?_eq_none → GK, getElem?_toList → GU
open PySem.Around renaming under_plainId → BQ
open Int renaming toNat_natCast → BU, emod_lt_of_pos → CU, emod_nonneg → CV, toNat_of_nonneg → DW, fdiv_eq_ediv_of_nonneg → FG
open PySem.F renaming called_set → BX, slot_tuple_iterator_next → CT, args_tuple_add_2 → DY, slot_list_getattribute → DZ, entry_tuple_add → EF, slot_tuple_add → EK, args_tuple_iterator_next_1 → EW, slot_zip_next → EX, entry_tuple_iterator_next → FD, entry_type_call → GB, plain_list_iadd → GD, slot_dict_init → GM, plain_set_new → GS, slot_set_iter → GV
open Option renaming bind_some → CS, map_eq_some_iff → DG, isSome_iff_exists → FV, map_some → GO
open PySem.Paired renaming length → DL
open PySem.Heap.SameBut renaming update → DU
open PySem.AutoSeq1 renaming sub_tuple_tuple → DX
open PyProof.Rows.F renaming plain_set_update_loop → EI
open Prod.mk renaming injEq → ES
open PySem.Calls renaming Name_function_global → FF, spliced_cons → FH, spliced_nil → FO
open PySem.Moved renaming eq_with → GW
open PySem.SeqAt.EqAt renaming int_str → GY, str_int → GZ, int_int → HA
set_option Elab.async false
set_option linter.all false
set_option maxRecDepth 100000
namespace L2
open PySem PySem.Spec PyProof.Rows
noncomputable abbrev Key:=Sum Int Str
noncomputable def td:Key→Value→Bool
 | .inl k,v=>Value.isInt k v
 | .inr x,v=>Value.isStrOf x v
noncomputable def Mw (w:World):Key→Int
 | .inl k=>hashInt k
 | .inr x=>hashStr w x
theorem a7:∀{k:Key} {v:Value},td k v=true→(∃i t,k=Sum.inl i∧v=Value.int i t)∨(∃x t,k=Sum.inr x∧v=Value.str x t)
 | .inl i,v,h=>by
  obtain⟨t,e⟩:=Value.isInt_shape (k:=i) (v:=v) h
  exact .inl ⟨i,t,rfl,e⟩
 | .inr x,v,h=>by
  obtain⟨t,e⟩:=Value.isStrOf_shape (x:=x) (v:=v) h
  exact .inr ⟨x,t,rfl,e⟩
theorem vb (i:Int) (t:Tok):td (.inl i) (.int i t)=true:=by simp[td,Value.isInt]
theorem vc (x:Str) (t:Tok):td (.inr x) (.str x t)=true:=by simp[td,Value.isStrOf]
theorem D6 (a b:Int):decide ((Sum.inl a:Key)=Sum.inl b)=(a==b):=by
 by_cases e:a=b
 ·subst e;simp
 ·have h:¬(Sum.inl a:Key)=Sum.inl b:=fun q=>e (Sum.inl.inj q)
  rw[decide_eq_false h]
  exact(beq_eq_false_iff_ne.mpr e).symm
theorem D7 (a b:Str):decide ((Sum.inr a:Key)=Sum.inr b)=decide (a=b):=by
 by_cases e:a=b
 ·subst e;simp
 ·have h:¬(Sum.inr a:Key)=Sum.inr b:=fun q=>e (Sum.inr.inj q)
  rw[decide_eq_false h,decide_eq_false e]
theorem D8 (a:Int) (b:Str):decide ((Sum.inl a:Key)=Sum.inr b)=false:=decide_eq_false (fun q=>nomatch q)
theorem D9 (a:Str) (b:Int):decide ((Sum.inr a:Key)=Sum.inl b)=false:=decide_eq_false (fun q=>nomatch q)
noncomputable def bz (prog:Program) (w:World):PySem.KeyKind prog w Key where
 is:=td
 hash:=Mw w
 inj:=fun v a b ha hb=>by
  rcases a7 ha with⟨i,t,rfl,rfl⟩ | ⟨x,t,rfl,rfl⟩
  ·rcases a7 hb with⟨j,u,rfl,e⟩ | ⟨y,u,rfl,e⟩
   ·injection e with e1 _;rw[e1]
   ·exact nomatch e
  ·rcases a7 hb with⟨j,u,rfl,e⟩ | ⟨y,u,rfl,e⟩
   ·exact nomatch e
   ·injection e with e1 _;rw[e1]
 byValue:=fun k v h=>by
  rcases a7 h with⟨i,t,rfl,rfl⟩ | ⟨x,t,rfl,rfl⟩<;>rfl
 pyHash:=fun hv h=>by
  rcases a7 hv with⟨i,t,rfl,rfl⟩ | ⟨x,t,rfl,rfl⟩
  ·exact wpAny_pyHash_int h
  ·exact wpAny_pyHash_str h
 eqBool:=fun hu hv h=>by
  rcases a7 hu with⟨i,t,rfl,rfl⟩ | ⟨x,t,rfl,rfl⟩
  ·rcases a7 hv with⟨j,u,rfl,rfl⟩ | ⟨y,u,rfl,rfl⟩
   ·rw[D6]at h;exact wpAny_eqBool_int h
   ·rw[D8]at h;exact GY i t y u _ _ _ _ h
  ·rcases a7 hv with⟨j,u,rfl,rfl⟩ | ⟨y,u,rfl,rfl⟩
   ·rw[D9]at h;exact GZ x t j u _ _ _ _ h
   ·rw[D7]at h;exact wpAny_eqBool_str h
 «strs»:=fun k x t v h=>by
  rcases a7 h with⟨i,u,rfl,e⟩ | ⟨y,u,rfl,e⟩
  ·exact nomatch e
  ·injection e with e1 _
   subst e1
   cases v<;>rfl
theorem pj (prog:Program) (w:World) (i:Int) (t:Tok):(bz prog w).is (.inl i) (.int i t)=true:=vb i t
theorem pk (prog:Program) (w:World) (x:Str) (t:Tok):(bz prog w).is (.inr x) (.str x t)=true:=vc x t
end L2
namespace L2
open PySem PySem.Spec PyProof.Rows
inductive V where
 | non | bl (b:Bool) | int (i:Int) | str (x:Str) | byt (b:Array UInt8) | flt (b:UInt64) | ref (a:Addr) | ty (n:String)
 deriving DecidableEq
noncomputable def RelV:V→Value→Prop
 | .non,u=>u=Value.none
 | .bl b,u=>u=Value.bool b
 | .int i,u=>∃t,u=Value.int i t
 | .str x,u=>∃t,u=Value.str x t
 | .byt b,u=>∃t,u=Value.bytes b t
 | .flt b,u=>∃t,u=Value.float b t
 | .ref a,u=>u=Value.ref a
 | .ty n,u=>u=Value.type n
noncomputable abbrev a9:List V→List Value→Prop:=Paired RelV
theorem a9.length {xs:List V} {us:List Value} (r:a9 xs us):xs.length=us.length:=DL r
theorem a9.get:∀{xs:List V} {us:List Value} {i:Nat} {x:V},a9 xs us→xs[i]? = some x→∃u,us[i]? = some u∧RelV x u
 | _,_,_,_,.nil,e=>by simp at e
 | _,_,0,_,.cons r _,e=>by simp at e;subst e;exact⟨_,rfl,r⟩
 | _,_,i+1,x,.cons _ t,e=>by
  obtain⟨u,h1,h2⟩:=a9.get (i:=i) (x:=x) t (by simpa using e)
  exact⟨u,by simpa using h1,h2⟩
theorem a9.append:∀{xs ys:List V} {us ws:List Value},a9 xs us→a9 ys ws→a9 (xs++ys) (us++ws)
 | _,_,_,_,.nil,s=>s
 | _,_,_,_,.cons r t,s=>.cons r (a9.append t s)
theorem a9.take:∀{xs:List V} {us:List Value} (n:Nat),a9 xs us→a9 (xs.take n) (us.take n)
 | _,_,0,_=>.nil
 | _,_,_+1,.nil=>.nil
 | _,_,n+1,.cons r t=>.cons r (a9.take n t)
theorem a9.drop:∀{xs:List V} {us:List Value} (n:Nat),a9 xs us→a9 (xs.drop n) (us.drop n)
 | _,_,0,r=>r
 | _,_,_+1,.nil=>.nil
 | _,_,n+1,.cons _ t=>a9.drop n t
noncomputable def D0:Option V→Option Value→Prop
 | some v,some u=>RelV v u
 | none,none=>True
 | _,_=>False
noncomputable def KV {κ:Type}:List (κ×V)→List (κ×Value)→Prop:=Paired fun(p:κ×V) (q:κ×Value)=>p.1=q.1∧RelV p.2 q.2
noncomputable def kV:Key→V
 | .inl i=>.int i
 | .inr x=>.str x
inductive HO where
 /-- a list -/
 | lst (xs:List V)
 /-- a tuple (never changes) -/
 | tup (xs:List V)
 /-- a dict whose keys are ints and texts;one whose keys are tuples of ints and texts (the empty one is both) -/
 | dK (kvs:List (Key×V)) | dT (kvs:List (List Key×V))
 /-- a set of ints: its members,its size -/
 | set (S:Int→Bool) (n:Nat)
 /-- an instance of the class at C,its dict at dx,its attributes -/
 | ins (C dx:Addr) (fs:List (Str×V))
 /-- the dict of the instance at x -/
 | own (x:Addr)
 /-- the dict of an exception -/
 | xd (fs:List (Str×V))
 /-- a bound method,f of x -/
 | met (f x:Addr)
 /-- a range object lo,lo+1,.. below hi -/
 | rng (lo hi:Int)
 /-- a thing that is known to the object (the script;a dict while a loop walks it): read,never written while it is so -/
 | frz (o:Obj) (u:HO)
 /-- a code object's table -/
 | tbl (ps:Array Value)
 /-- any other thing,by what is true of its one object (a def of one's own: SetO a S n:=HO.ext fun h=>..) -/
 | ext (φ:Heap→Prop)
noncomputable abbrev Hp:=Addr→Option HO
noncomputable def upd (H:Hp) (a:Addr) (o:HO):Hp:=fun b=>if b=a then some o else H b
theorem au {H:Hp} {a:Addr} {o:HO}:upd H a o a=some o:=by unfold upd;rw[if_pos rfl]
theorem ai {H:Hp} {a b:Addr} {o:HO} (h:b≠a):upd H a o b=H b:=by unfold upd;rw[if_neg h]
theorem Bu {H:Hp} {a:Addr} {o u:HO}:upd (upd H a o) a u=upd H a u:=by
 funext b;unfold upd;split<;>rfl
theorem p5 {H:Hp} {a b:Addr} {o u:HO} (h:H a=some o) (h':H b=some u) (d:o≠u):a≠b:=by
 intro e;subst e;rw[h]at h';exact d (BF h')
theorem aq {H:Hp} {a b:Addr} {o:HO} (h:H a=some o) (h':H b=none):a≠b:=by
 intro e;subst e;rw[h]at h';cases h'
noncomputable def ij (h:Heap) (a:Addr) (items:Array Value):Prop:=∃o,h.get? a=some o∧o.cls=.type "tuple"∧o.dict=none∧∃n,o.data=.seq items n
theorem ij.tup {h:Heap} {a:Addr} {items:Array Value} (x:ij h a items):IsTup h a items:=let ⟨o,e,c,_,d⟩:=x;⟨o,e,c,d⟩
theorem ij.new (h:Heap) (items:Array Value):ij (h.push {cls:=.type "tuple",data:=.seq items}) h.objs.size items:=⟨_,AG _ rfl,rfl,rfl,_,rfl⟩
section
variable (P : Program) (w : World)
noncomputable def dy (H:Hp) (h:Heap) (a:Addr):HO→Prop
 | .lst xs=>xs.length≤sizeLine∧∃(its:List Value) (n:Nat),a9 xs its∧h.get? a=some {cls:=.type "list",data:=.seq its.toArray n}
 | .tup xs=>xs.length≤sizeLine∧∃its:List Value,a9 xs its∧ij h a its.toArray
 | .dK kvs=>kvs.length≤sizeLine∧(a==sysModules)=false∧∃vs,KV kvs vs∧h.DictOf (bz P w) a vs
 | .dT kvs=>kvs.length≤sizeLine∧(a==sysModules)=false∧∃xs:List (List Key×Addr×Value),
   Paired (fun(p:List Key×V) (q:List Key×Addr×Value)=>p.1=q.1∧H q.2.1=some (.tup (p.1.map kV))∧RelV p.2 q.2.2) kvs xs ∧
   ∃o es ep,h.get? a=some o∧o.ExactDict∧o.data=.dict es ep∧es.toList=xs.map (entryOfKey (tupleKind (bz P w)))∧(xs.map (·.1)).Nodup
 | .set S n=>h.SetOf (intKind P w) a S n
 | .ins C dx fs=>H dx=some (.own a)∧fs.length≤1000∧dx≠a∧h.get? a=some (PySem.W.instObj C dx) ∧
   ∃mA,h.Ns1 dx mA∧(∀f,D0 (fs.lookup f) (mA f))∧PySem.Within mA (fs.map (·.1))
 | .own _=>∃o,h.get? a=some o
 | .xd fs=>∃mA,h.Ns1 a mA∧∀f,D0 (fs.lookup f) (mA f)
 | .rng lo hi=>∃t u v,h.get? a=some {cls:=.type "range",data:=.fields #[.int lo t,.int hi u,.int 1 v]}
 | .frz o u=>h.get? a=some o∧dy H h a u
 | .tbl ps=>h.get? a=some {cls:=.none,data:=.fields ps}
 | .met f x=>h.get? a=some (PySem.W.methodObj (.ref f) (.ref x))
 | .ext φ=>φ h∧(∃o,h.get? a=some o)∧∀h1 h2:Heap,φ h1→(∀o,h1.get? a=some o→h2.get? a=some o)→φ h2
noncomputable def HOk (H:Hp) (h:Heap):Prop:=∀a o,H a=some o→dy P w H h a o
end
section
variable {P : Program} {w : World} {H H' : Hp} {h h' : Heap} {a : Addr} {o : HO}
theorem dy.lt (x:dy P w H h a o):a<h.objs.size:=by
 cases o with
 | lst xs=>obtain⟨_,_,_,_,e⟩:=x;exact AF e
 | tup xs=>obtain⟨_,_,_,p⟩:=x;exact p.tup.lt
 | dK kvs=>obtain⟨_,_,_,_,o,_,_,e,_⟩:=x;exact AF e
 | dT kvs=>obtain⟨_,_,_,_,o,_,_,e,_⟩:=x;exact AF e
 | set S n=>obtain⟨o,_,_,_,e,_⟩:=x;exact AF e
 | ins C dx fs=>obtain⟨_,_,_,e,_⟩:=x;exact AF e
 | own y=>obtain⟨_,e⟩:=x;exact AF e
 | xd fs=>obtain⟨_,⟨_,_,_,e,_⟩,_⟩:=x;exact AF e
 | rng lo hi=>obtain⟨_,_,_,e⟩:=x;exact AF e
 | frz ob u=>obtain⟨e,_⟩:=x;exact AF e
 | tbl ps=>exact AF (show h.get? a=some _ from x)
 | met f y=>exact AF (show h.get? a=some _ from x)
 | ext φ=>obtain⟨_,⟨_,e⟩,_⟩:=x;exact AF e
theorem Paired.mapP {α β:Type} {F G:α→β→Prop}:∀{l₁:List α} {l₂:List β},Paired F l₁ l₂→(∀a b,F a b→G a b)→Paired G l₁ l₂
 | _,_,.nil,_=>.nil
 | _,_,.cons r t,f=>.cons (f _ _ r) (Paired.mapP t f)
theorem dy.stay (x:dy P w H h a o) (k:∀b u,(b=a∨H b=some (.own a))→h.get? b=some u→h'.get? b=some u)
  (ho:∀b,H b=some (.own a)→H' b=some (.own a)) (ht:∀b xs,H b=some (.tup xs)→H' b=some (.tup xs)):dy P w H' h' a o:=by
 induction o with
 | lst xs=>obtain⟨z,its,n,r,e⟩:=x;exact⟨z,its,n,r,k _ _ (.inl rfl) e⟩
 | tup xs=>obtain⟨z,its,r,ob,e,c⟩:=x;exact⟨z,its,r,ob,k _ _ (.inl rfl) e,c⟩
 | dK kvs=>obtain⟨z,y,vs,r,ob,es,ep,e,c⟩:=x;exact⟨z,y,vs,r,ob,es,ep,k _ _ (.inl rfl) e,c⟩
 | dT kvs =>
  obtain⟨z,y,xs,r,ob,es,ep,e,c⟩:=x
  exact⟨z,y,xs,Paired.mapP r fun p q z=>⟨z.1,ht _ _ z.2.1,z.2.2⟩,ob,es,ep,k _ _ (.inl rfl) e,c⟩
 | set S n=>obtain⟨ob,es,ep,t,e,c⟩:=x;exact⟨ob,es,ep,t,k _ _ (.inl rfl) e,c⟩
 | ins C dx fs =>
  obtain⟨d,z,ne,e,mA,⟨od,es,ep,e2,c⟩,r⟩:=x
  exact⟨ho _ d,z,ne,k _ _ (.inl rfl) e,mA,⟨od,es,ep,k _ _ (.inr d) e2,c⟩,r⟩
 | own y=>obtain⟨ob,e⟩:=x;exact⟨ob,k _ _ (.inl rfl) e⟩
 | xd fs=>obtain⟨mA,⟨od,es,ep,e,c⟩,r⟩:=x;exact⟨mA,⟨od,es,ep,k _ _ (.inl rfl) e,c⟩,r⟩
 | rng lo hi=>obtain⟨t,u,v,e⟩:=x;exact⟨t,u,v,k _ _ (.inl rfl) e⟩
 | frz ob u ih=>obtain⟨e,q⟩:=x;exact⟨k _ _ (.inl rfl) e,ih q⟩
 | tbl ps =>
  have e:h.get? a=some {cls:=.none,data:=.fields ps}:=x
  show h'.get? a=some {cls:=.none,data:=.fields ps}
  exact k a _ (.inl rfl) e
 | met f y =>
  have e:h.get? a=some (PySem.W.methodObj (.ref f) (.ref y)):=x
  show h'.get? a=some (PySem.W.methodObj (.ref f) (.ref y))
  exact k a _ (.inl rfl) e
 | ext φ=>obtain⟨p,⟨o,e⟩,st⟩:=x;exact⟨st _ _ p fun o q=>k _ _ (.inl rfl) q,⟨o,k _ _ (.inl rfl) e⟩,st⟩
theorem HOk.lt (x:HOk P w H h) (e:H a=some o):a<h.objs.size:=(x a o e).lt
theorem HOk.fresh (x:HOk P w H h) (e:h.objs.size≤a):H a=none:=by
 cases q:H a with
 | none=>rfl
 | some u=>exact absurd (AO (x.lt q) e) (CA _)
theorem HOk.kept (x:HOk P w H h) (k:∀b u,h.get? b=some u→h'.get? b=some u):HOk P w H h':=fun a o e =>
 (x a o e).stay (fun b u _ q=>k b u q) (fun _ q=>q) fun _ _ q=>q
theorem HOk.laid (x:HOk P w H h) (k:∀b u,h.get? b=some u→h'.get? b=some u) (hp:h.objs.size≤a) (new:dy P w (upd H a o) h' a o):HOk P w (upd H a o) h':=fun b u e=>by
 have hn:=x.fresh hp
 by_cases hb:b=a
 ·subst hb;rw[au]at e;cases e;exact new
 ·rw[ai hb]at e
  exact(x b u e).stay (fun c v _ q=>k c v q) (fun c q=>by rw[ai (aq q hn)];exact q) fun c xs q=>by rw[ai (aq q hn)];exact q
end
noncomputable def Rd (H:Hp) (a:Addr) (u:HO):Prop:=H a=some u∨∃o,H a=some (.frz o u)
theorem Rd.ok {P:Program} {w:World} {H:Hp} {h:Heap} {a:Addr} {u:HO} (r:Rd H a u) (x:HOk P w H h):dy P w H h a u:=by
 rcases r with r | ⟨o,r⟩
 ·exact x a u r
 ·obtain⟨_,q⟩:=x a _ r
  exact q
noncomputable def Mut:Option HO→Prop
 | some (.lst _)=>True
 | some (.dK _)=>True
 | some (.dT _)=>True
 | some (.set _ _)=>True
 | some (.ins _ _ _)=>True
 | some (.ext _)=>True
 | _=>False
section
variable {P : Program} {w : World} {H : Hp} {h h' : Heap} {x e : Addr} {o' : HO}
theorem HOk.write (ok:HOk P w H h) (mu:Mut (H x)) (he:e=x∨H e=some (.own x)) (k:∀b u,b≠e→h.get? b=some u→h'.get? b=some u) (heo:∃u,h'.get? e=some u)
  (new:dy P w (upd H x o') h' x o'):HOk P w (upd H x o') h':=fun b u q=>by
 have nown:∀c y,H c=some (.own y)→c≠x:=fun c y r z=>by subst z;rw[r]at mu;exact mu
 have ntup:∀c xs,H c=some (.tup xs)→c≠x:=fun c xs r z=>by subst z;rw[r]at mu;exact mu
 by_cases hb:b=x
 ·subst hb;rw[au]at q;cases q;exact new
 ·rw[ai hb]at q
  by_cases hbe:b=e
  ·have q':H b=some (.own x):=by
    rcases he with z | z
    ·exact absurd (hbe.trans z) hb
    ·rw[hbe];exact z
   rw[q]at q';cases q'
   obtain⟨v,hv⟩:=heo
   exact⟨v,by rw[hbe];exact hv⟩
  ·refine(ok b u q).stay (fun c v hc r=>k c v ?_ r) (fun c r=>by rw[ai (nown c b r)];exact r) fun c xs r=>by rw[ai (ntup c xs r)];exact r
   rcases hc with rfl | hc
   ·exact hbe
   ·rintro rfl
    rcases he with z | z
    ·exact nown c b hc z
    ·rw[hc]at z;cases z;exact hb rfl
end
structure Un (fs ex:List Addr) (H H':Hp) (h h':Heap):Prop where
 keep:∀b o,h.get? b=some o→H b=none→b∉fs→b∉ex→h'.get? b=some o
 slot:∀b o,h.get? b=some o→H b=none→b∈fs→b∉ex→∃sl,h'.get? b=some {o with slots:=sl}
 free:∀b o,h.get? b=some o→H b=none→b∉ex→H' b=none
 there:∀b o,h.get? b=some o→b∉ex→∃o',h'.get? b=some o'
 tups:∀b xs,H b=some (.tup xs)→H' b=some (.tup xs)
 frzs:∀b o u,H b=some (.frz o u)→H' b=some (.frz o u)
 tbls:∀b ps,H b=some (.tbl ps)→∃more,H' b=some (.tbl (ps++more))
section
variable {fs fs' ex ex' : List Addr} {H H1 H2 : Hp} {h h1 h2 h' : Heap} {a x e : Addr} {o : HO}
theorem Un.any (u:Un fs ex H H1 h h1) {b:Addr} {ob:Obj} (q:h.get? b=some ob) (n:H b=none) (hx:b∉ex):∃sl,h1.get? b=some {ob with slots:=sl}:=by
 by_cases hb:b∈fs
 ·exact u.slot b ob q n hb hx
 ·exact⟨ob.slots,u.keep b ob q n hb hx⟩
theorem Un.kept (k:∀b u,h.get? b=some u→h'.get? b=some u):Un fs ex H H h h' :=
 ⟨fun b ob q _ _ _=>k b ob q,fun b ob q _ _ _=>⟨ob.slots,k b ob q⟩,fun _ _ _ n _=>n,fun b ob q _=>⟨ob,k b ob q⟩,fun _ _ q=>q,fun _ _ _ q=>q,fun _ ps q=>⟨#[],by rw[q];simp⟩⟩
theorem Un.refl:Un fs ex H H h h:=Un.kept fun _ _ q=>q
theorem Un.laid (k:∀b u,h.get? b=some u→h'.get? b=some u) (hp:h.objs.size≤a) (hn:H a=none):Un fs ex H (upd H a o) h h' where
 keep:=fun b u q _ _ _=>k b u q
 slot:=fun b u q _ _ _=>⟨u.slots,k b u q⟩
 free:=fun b u q n _=>by rw[ai (AI (AO (AF q) hp))];exact n
 there:=fun b u q _=>⟨u,k b u q⟩
 tups:=fun b xs q=>by rw[ai (aq q hn)];exact q
 frzs:=fun b u xs q=>by rw[ai (aq q hn)];exact q
 tbls:=fun b ps q=>⟨#[],by rw[ai (aq q hn),q];simp⟩
theorem Un.write (mu:Mut (H x)) (he:e=x∨H e=some (.own x)) (k:∀b u,b≠e→h.get? b=some u→h'.get? b=some u) (heo:∃u,h'.get? e=some u):Un fs ex H (upd H x o) h h':=by
 have hx:∀b,H b=none→b≠x:=fun b n z=>by subst z;rw[n]at mu;exact mu
 have hb:∀b,H b=none→b≠e:=fun b n z=>by
  subst z
  rcases he with r | r
  ·exact hx b n r
  ·rw[n]at r;cases r
 have hm:∀b u,H b=some u→¬Mut (some u)→b≠x:=fun b u q nm z=>by subst z;rw[q]at mu;exact nm mu
 refine⟨fun b u q n _ _=>k b u (hb b n) q,fun b u q n _ _=>⟨u.slots,k b u (hb b n) q⟩,fun b u q n _=>by rw[ai (hx b n)];exact n,fun b u q _=>?_,
  fun b xs q=>by rw[ai (hm b _ q fun z=>z)];exact q,fun b u xs q=>by rw[ai (hm b _ q fun z=>z)];exact q,fun b ps q=>⟨#[],by rw[ai (hm b _ q fun z=>z),q];simp⟩⟩
 by_cases hbe:b=e
 ·subst hbe;exact heo
 ·exact⟨u,k b u hbe q⟩
end
noncomputable def trk (h:Heap) (H:Hp):List Addr:=(List.range h.objs.size).filter fun a=>(H a).isSome
noncomputable def zh (h:Heap) (H:Hp):Heap:=PySem.W.hideAll h (trk h H)
theorem vd (h:Heap) (H:Hp):(zh h H).objs.size=h.objs.size:=PySem.W.hideAll_size _ _
theorem zi {h:Heap} {H:Hp} {b:Addr} {o:Obj} (e:h.get? b=some o) (n:H b=none):(zh h H).get? b=some o :=
 PySem.W.hideAll_get _ e fun hm=>by
  have q:(H b).isSome=true:=(List.mem_filter.mp hm).2
  rw[n]at q;simp at q
theorem Bv {h:Heap} {H:Hp} {b:Addr} {o:Obj} (e:(zh h H).get? b=some o):h.get? b=some o∧H b=none:=by
 have e':h.get? b=some o:=PySem.W.of_hideAll (trk h H) e
 refine⟨e',?_⟩
 cases q:H b with
 | none=>rfl
 | some x =>
  have hm:b∈trk h H:=List.mem_filter.mpr ⟨List.mem_range.mpr (AF e'),by simp[q]⟩
  have z:(zh h H).get? b=none:=PySem.W.hideAll_none (trk h H) hm
  rw[z]at e;cases e
noncomputable def Bw (g h:Heap) (L:Addr):List (Addr×Obj):=(List.range h.objs.size).filterMap fun a=>if a=L∨(g.get? a).isSome=true then none else(h.get? a).map fun o=>(a,o)
noncomputable def rest (g h:Heap) (L d:Addr):List (Addr×Obj):=(Bw g h L).filter fun p=>decide (p.1≠d)
end L2
namespace L2
open PySem PySem.Spec PyProof.Rows
structure Mod (K:PySem.W.Frag) (mg:Str→Option Value) (base:Heap):Prop where
 kin:K.In base
 glob:base.Ns mainGlobals mg
 blt:∃mb,base.Ns builtinsNs mb∧∀x:Str,x≠"__name__"→mb x=bootBuiltins x
 nolimit:base.NoLimit
structure Cx where
 prog:Program
 w:World
 K:PySem.W.Frag
 mg:Str→Option Value
 base:Heap
 A:Around
 N:List Str
 s₀:Shared
 H₀:Hp
 env:Env
 outer:List Env
 stack:List Env
 ex:List Addr
 fn:Str→Bool
 calm:Bool
 pn:List (Addr×Obj)
 xe:Value→Shared→Prop
noncomputable def frs (l:List Env):List Addr:=l.filterMap (·.frame)
noncomputable abbrev Cx.fs (X:Cx):List Addr:=frs X.outer
noncomputable def Vis (sc:Scope) (x:Str):Prop:=sc.names.lookup x=some .local∨sc.names.lookup x=some .cell∨sc.names.lookup x=some .free
noncomputable def Loc (sc:Scope) (x:Str):Prop:=sc.names.lookup x=some .local∨sc.names.lookup x=some .cell
noncomputable def Look (env:Env) (h:Heap) (m:Str→Option Value) (x:Str) (u:Value):Prop :=
 (env.kindOf x=some .local∧m x=some u)∨((env.kindOf x=some .cell∨env.kindOf x=some .free)∧∃c,env.cells.lookup x=some c∧h.IsCell c (some u))
structure Cx.Ok (X:Cx):Prop where
 mod:Mod X.K X.mg X.base
 kind:X.env.scope.kind=.function
 glob:X.env.globals=mainGlobals
 blt:X.env.builtins=builtinsNs
 above:X.s₀.heap.objs.size≤X.env.locals
 inj:∀x y c,X.env.cells.lookup x=some c→X.env.cells.lookup y=some c→x=y
 has:∀x,(X.env.kindOf x=some .cell∨X.env.kindOf x=some .free)→∃c,X.env.cells.lookup x=some c
 cab:∀x c,X.fn x=true→X.env.cells.lookup x=some c→X.s₀.heap.objs.size≤c
 hd:X.calm=true→X.A.handled=none
 frames:X.A.frames=some X.stack
 stk:X.stack=X.outer∨(X.stack=X.env::X.outer∧X.env.frame=some X.env.locals)
 exf:∀b∈X.ex,b≠X.env.locals∧∀x c,X.env.cells.lookup x=some c→c≠b
 bs:∀b o,X.base.get? b=some o→X.s₀.heap.get? b=some o∧X.H₀ b=none
 bsz:X.base.objs.size≤X.s₀.heap.objs.size
 noex:∀b o,X.base.get? b=some o→b∉X.ex
 exfs:∀b∈X.ex,b∉X.fs
 funs:X.s₀.heap.FunFrames X.base X.outer
 frf:∀b∈X.fs,X.H₀ b=none
structure Inv (X:Cx) (pins:List (Addr×Obj)) (σ:List (Option V)) (H:Hp) (s:Shared):Prop where
 ok:X.Ok
 os:s.os=X.s₀.os
 bare:AllBare s.gens
 base:Un X.fs X.ex X.H₀ H X.s₀.heap s.heap
 loc:∃m,s.heap.Ns X.env.locals m∧∀(i:Nat) (x:Str) (v:V),X.N[i]? = some x→σ[i]? = some (some v)→Vis X.env.scope x→∃u,RelV v u∧Look X.env s.heap m x u
 cell:∀x c,X.env.cells.lookup x=some c→∃v,s.heap.IsCell c v
 free:H X.env.locals=none
 freeC:∀x c,X.env.cells.lookup x=some c→H c=none
 pin:∀p∈X.pn++pins,s.heap.get? p.1=some p.2∧H p.1=none∧p.1≠X.env.locals∧p.1∉X.fs∧∀v,p.2.data≠.cell v
 hok:HOk X.prog X.w H s.heap
 len:σ.length=X.N.length
section
variable {X : Cx} {pins : List (Addr × Obj)} {σ : List (Option V)} {H H' : Hp} {s : Shared} {h' : Heap}
theorem Cx.Ok.nofr (ok:X.Ok) {b:Addr} {o:Obj} (e:X.base.get? b=some o):b∉X.fs:=fun hb=>by
 have:=(ok.funs.mem hb).1
 rw[e]at this;cases this
theorem Inv.bs (I:Inv X pins σ H s):∀b o,X.base.get? b=some o→s.heap.get? b=some o∧H b=none:=fun b o e =>
 ⟨I.base.keep b o (I.ok.bs b o e).1 (I.ok.bs b o e).2 (I.ok.nofr e) (I.ok.noex b o e),I.base.free b o (I.ok.bs b o e).1 (I.ok.bs b o e).2 (I.ok.noex b o e)⟩
theorem Inv.bk (I:Inv X pins σ H s):∀b o,X.base.get? b=some o→s.heap.get? b=some o:=fun b o e=>(I.bs b o e).1
theorem Inv.mod (I:Inv X pins σ H s):Mod X.K X.mg X.base:=I.ok.mod
theorem Inv.kIn (I:Inv X pins σ H s):X.K.In s.heap:=I.ok.mod.kin.keeps I.bk
theorem Inv.fr (I:Inv X pins σ H s):∃m,Fr X.base X.env.locals s.heap m :=
 let ⟨m,hn,_⟩:=I.loc
 ⟨m,hn,I.bk,BV I.ok.bsz I.ok.above⟩
theorem Inv.lt (I:Inv X pins σ H s):X.env.locals<s.heap.objs.size:=let ⟨_,hn,_⟩:=I.loc;hn.lt
theorem Inv.sz (I:Inv X pins σ H s):X.s₀.heap.objs.size≤s.heap.objs.size:=BV I.ok.above (DD I.lt)
theorem Inv.nofs (I:Inv X pins σ H s) {a:Addr} (h:s.heap.objs.size≤a):a∉X.fs:=fun hb=>by
 obtain⟨_,o,ho,_⟩:=I.ok.funs.mem hb
 exact absurd (AO (AF ho) (BV I.sz h)) (CA _)
theorem Inv.cne (I:Inv X pins σ H s):∀x c,X.env.cells.lookup x=some c→c≠X.env.locals:=fun x c e z=>by
 obtain⟨v,o,ho,hd⟩:=I.cell x c e
 obtain⟨m,⟨o',es,ep,ho',hd',_⟩,_⟩:=I.loc
 rw[z,ho']at ho;cases ho;rw[hd']at hd;cases hd
theorem Inv.funs (I:Inv X pins σ H s):s.heap.FunFrames X.base X.outer:=by
 have all:∀(l:List Env),(∀b∈frs l,b∈X.fs)→X.s₀.heap.FunFrames X.base l→s.heap.FunFrames X.base l:=by
  intro l
  induction l with
  | nil=>intro _ _;trivial
  | cons env r ih =>
   intro hs hl
   obtain⟨hk,⟨L,o,hf,hn,ho,hd⟩,hr⟩:=hl
   have hL:L∈X.fs:=hs L (by unfold frs;rw[FA,hf];exact AM)
   obtain⟨sl,e⟩:=I.base.slot L o ho (I.ok.frf L hL) hL fun z=>I.ok.exfs L z hL
   exact⟨hk,⟨L,_,hf,hn,e,hd⟩,ih (fun b hb=>hs b (by unfold frs;rw[FA,hf];exact AN _ hb)) hr⟩
 exact all X.outer (fun _ hb=>hb) I.ok.funs
theorem Inv.stack (I:Inv X pins σ H s):s.heap.FunFrames X.base X.stack:=by
 rcases I.ok.stk with e | ⟨e,hf⟩
 ·rw[e];exact I.funs
 ·rw[e]
  obtain⟨m,hn,_⟩:=I.loc
  refine .cons (by rw[I.ok.kind];decide) hf hn ?_ I.funs
  exact Heap.get?_none_of_le (BV I.ok.bsz I.ok.above)
theorem Inv.stkSub (I:Inv X pins σ H s):∀b∈frs X.stack,b∈X.env.locals::X.fs:=fun b hb=>by
 rcases I.ok.stk with e | ⟨e,hf⟩
 ·rw[e]at hb;exact AN _ hb
 ·rw[e]at hb
  unfold frs at hb
  rw[FA,hf]at hb
  exact hb
theorem Inv.stkFree (I:Inv X pins σ H s):∀b∈frs X.stack,H b=none:=fun b hb=>by
 rcases AJ.mp (I.stkSub b hb)with e | hb
 ·rw[e];exact I.free
 ·obtain⟨_,o,ho,_⟩:=I.ok.funs.mem hb
  exact I.base.free b o ho (I.ok.frf b hb) fun z=>I.ok.exfs b z hb
theorem Inv.step {g':Array GenState} {t':Nat} {d':Drawn} {ch:List Addr} (I:Inv X pins σ H s)
  (hch:∀b∈ch,(b∈X.ex∨X.s₀.heap.objs.size≤b)∧b≠X.env.locals∧(∀x c,X.env.cells.lookup x=some c→c≠b)∧∀p∈X.pn++pins,p.1≠b)
  (keep:∀b o,b≠X.env.locals→b∉X.fs→b∉ch→s.heap.get? b=some o→H b=none→h'.get? b=some o)
  (slot:∀b o,b≠X.env.locals→b∈X.fs→b∉ch→s.heap.get? b=some o→H b=none→∃sl,h'.get? b=some {o with slots:=sl}) (free:∀b o,b∉ch→s.heap.get? b=some o→H b=none→H' b=none)
  (there:∀b o,b∉ch→s.heap.get? b=some o→∃o',h'.get? b=some o')
  (tups:∀b xs,H b=some (.tup xs)→H' b=some (.tup xs)) (frzs:∀b o u,H b=some (.frz o u)→H' b=some (.frz o u)) (tbls:∀b ps,H b=some (.tbl ps)→∃more,H' b=some (.tbl (ps++more)))
  (ns:∀m,s.heap.Ns X.env.locals m→h'.Ns X.env.locals m) (hok:HOk X.prog X.w H' h') (hg:AllBare g') :
  Inv X pins σ H' {s with heap:=h',gens:=g',drawn:=d',toks:=t'}:=by
 have neL:∀b o,X.s₀.heap.get? b=some o→b≠X.env.locals:=fun b o e=>AI (AO (AF e) I.ok.above)
 have neC:∀b o,X.s₀.heap.get? b=some o→b∉X.ex→b∉ch:=fun b o e hx hb=>by
  rcases(hch b hb).1 with z | z
  ·exact hx z
  ·exact absurd (AO (AF e) z) (CA _)
 have cellK:∀x c,X.env.cells.lookup x=some c→∀v,s.heap.IsCell c v→h'.IsCell c v:=fun x c e v ⟨o,ho,hd⟩=>by
  have nch:c∉ch:=fun z=>(hch c z).2.2.1 x c e rfl
  by_cases hc:c∈X.fs
  ·obtain⟨sl,q⟩:=slot c o (I.cne x c e) hc nch ho (I.freeC x c e)
   exact⟨_,q,hd⟩
  ·exact⟨o,keep c o (I.cne x c e) hc nch ho (I.freeC x c e),hd⟩
 refine⟨I.ok,I.os,hg,⟨fun b o e n hb hx=>?_,fun b o e n hb hx=>?_,fun b o e n hx=>?_,fun b o e hx=>?_,fun b xs e=>tups b xs (I.base.tups b xs e),fun b o xs e=>frzs b o xs (I.base.frzs b o xs e),fun b ps e=>?_⟩,?_,fun x c e=>?_,?_,fun x c e=>?_,fun p hp=>?_,hok,I.len⟩
 ·exact keep b o (neL b o e) hb (neC b o e hx) (I.base.keep b o e n hb hx) (I.base.free b o e n hx)
 ·obtain⟨sl,e1⟩:=I.base.slot b o e n hb hx
  obtain⟨sl',e2⟩:=slot b _ (neL b o e) hb (neC b o e hx) e1 (I.base.free b o e n hx)
  exact⟨sl',e2⟩
 ·obtain⟨o',e1⟩:=I.base.there b o e hx
  exact free b o' (neC b o e hx) e1 (I.base.free b o e n hx)
 ·obtain⟨o',e1⟩:=I.base.there b o e hx
  exact there b o' (neC b o e hx) e1
 ·obtain⟨m1,e1⟩:=I.base.tbls b ps e
  obtain⟨m2,e2⟩:=tbls b _ e1
  exact⟨m1++m2,by rw[e2,Array.append_assoc]⟩
 ·obtain⟨m,hn,hl⟩:=I.loc
  refine⟨m,ns m hn,fun i x v e1 e2 e3=>?_⟩
  obtain⟨u,r,l⟩:=hl i x v e1 e2 e3
  refine⟨u,r,?_⟩
  rcases l with l | ⟨k,c,e,z⟩
  ·exact .inl l
  ·exact .inr ⟨k,c,e,cellK x c e _ z⟩
 ·obtain⟨v,z⟩:=I.cell x c e
  exact⟨v,cellK x c e v z⟩
 ·obtain⟨m,⟨o,_,_,ho,_⟩,_⟩:=I.loc
  exact free _ o (fun z=>(hch _ z).2.1 rfl) ho I.free
 ·obtain⟨v,o,ho,hd⟩:=I.cell x c e
  exact free c o (fun z=>(hch c z).2.2.1 x c e rfl) ho (I.freeC x c e)
 ·obtain⟨e,n,ne,nf,d⟩:=I.pin p hp
  have nch:p.1∉ch:=fun z=>(hch p.1 z).2.2.2 p hp rfl
  exact⟨keep p.1 p.2 ne nf nch e n,free p.1 p.2 nch e n,ne,nf,d⟩
theorem Inv.un {t':Nat} (I:Inv X pins σ H s) (u:Un X.fs [] H H' s.heap h') (hok:HOk X.prog X.w H' h'):Inv X pins σ H' {s with heap:=h',toks:=t'}:=by
 obtain⟨m,⟨o,es,ep,ho,r⟩,_⟩:=id I.loc
 obtain⟨sl,hL⟩:=u.any ho I.free (by simp)
 exact I.step (g':=s.gens) (d':=s.drawn) (ch:=[]) (fun _ z=>nomatch z) (fun b o _ hb _ e n=>u.keep b o e n hb (by simp)) (fun b o _ hb _ e n=>u.slot b o e n hb (by simp)) (fun b o _ e n=>u.free b o e n (by simp)) (fun b o _ e=>u.there b o e (by simp)) u.tups u.frzs u.tbls (fun m' hm=>by
  obtain⟨o',es',ep',ho',r'⟩:=hm
  rw[ho]at ho';cases ho'
  exact⟨_,es',ep',hL,r'⟩) hok I.bare
theorem Inv.call {g':Array GenState} {t':Nat} {d':Drawn} {ch:List Addr} (I:Inv X pins σ H s) (u:Un (frs X.stack) ch H H' s.heap h') (hok:HOk X.prog X.w H' h') (hg:AllBare g')
  (hch:∀b∈ch,(b∈X.ex∨X.s₀.heap.objs.size≤b)∧b≠X.env.locals∧(∀x c,X.env.cells.lookup x=some c→c≠b)∧∀p∈X.pn++pins,p.1≠b) :
  Inv X pins σ H' {s with heap:=h',gens:=g',drawn:=d',toks:=t'}:=by
 obtain⟨m,⟨o,es,ep,ho,r⟩,_⟩:=id I.loc
 obtain⟨sl,hL⟩:=u.any ho I.free fun z=>(hch _ z).2.1 rfl
 exact I.step (ch:=ch) hch (fun b o hL hb hc e n=>u.keep b o e n (fun z=>(AJ.mp (I.stkSub b z)).elim hL hb) hc) (fun b o _ _ hc e n=>u.any e n hc) (fun b o hc e n=>u.free b o e n hc) (fun b o hc e=>u.there b o e hc) u.tups u.frzs u.tbls (fun m' hm=>by
  obtain⟨o',es',ep',ho',r'⟩:=hm
  rw[ho]at ho';cases ho'
  exact⟨_,es',ep',hL,r'⟩) hok hg
theorem Inv.turned {t':Nat} {it:Addr} (I:Inv X pins σ H s) (k:∀b o,b≠it→s.heap.get? b=some o→h'.get? b=some o) (hn:H it=none) (hL:it≠X.env.locals)
  (h1:it∈X.ex∨X.s₀.heap.objs.size≤it) (h2:∀x c,X.env.cells.lookup x=some c→c≠it) (h3:∀p∈X.pn++pins,p.1≠it):Inv X pins σ H {s with heap:=h',toks:=t'}:=by
 have nit:∀b u,H b=some u→b≠it:=fun b u e z=>by rw[z,hn]at e;cases e
 refine I.step (g':=s.gens) (d':=s.drawn) (ch:=[it]) (fun b hb=>?_) (fun b o _ _ hc e _=>k b o (fun z=>hc (by simp[z])) e) (fun b o _ _ hc e _=>⟨o.slots,k b o (fun z=>hc (by simp[z])) e⟩) (fun _ _ _ _ n=>n)
  (fun b o hc e=>⟨o,k b o (fun z=>hc (by simp[z])) e⟩) (fun _ _ e=>e) (fun _ _ _ e=>e) (fun b ps e=>⟨#[],by rw[e];simp⟩) (fun m hm=>?_) (fun b u e=>?_) I.bare
 ·have e:b=it:=by simpa using hb
  subst e
  exact⟨h1,hL,h2,h3⟩
 ·obtain⟨o,es,ep,ho,r⟩:=hm
  exact⟨o,es,ep,k _ o (Ne.symm hL) ho,r⟩
 ·refine(I.hok b u e).stay (fun c v hc q=>k c v ?_ q) (fun _ q=>q) fun _ _ q=>q
  rcases hc with z | z
  ·rw[z];exact nit b u e
  ·exact nit c _ z
theorem Inv.tok (I:Inv X pins σ H s) (t:Nat):Inv X pins σ H {s with toks:=t}:=I.un (h':=s.heap) (t':=t) Un.refl I.hok
theorem Inv.kept {t':Nat} (I:Inv X pins σ H s) (k:∀b u,s.heap.get? b=some u→h'.get? b=some u):Inv X pins σ H {s with heap:=h',toks:=t'}:=I.un (Un.kept k) (I.hok.kept k)
theorem Inv.laid {a:Addr} {o:HO} {t':Nat} (I:Inv X pins σ H s) (k:∀b u,s.heap.get? b=some u→h'.get? b=some u) (hp:s.heap.objs.size≤a) (new:dy X.prog X.w (upd H a o) h' a o) :
  Inv X pins σ (upd H a o) {s with heap:=h',toks:=t'}:=I.un (Un.laid k hp (I.hok.fresh hp)) (I.hok.laid k hp new)
theorem Inv.write {x e:Addr} {o:HO} {t':Nat} (I:Inv X pins σ H s) (mu:Mut (H x)) (he:e=x∨H e=some (.own x)) (k:∀b u,b≠e→s.heap.get? b=some u→h'.get? b=some u) (heo:∃u,h'.get? e=some u)
  (new:dy X.prog X.w (upd H x o) h' x o):Inv X pins σ (upd H x o) {s with heap:=h',toks:=t'}:=I.un (Un.write mu he k heo) (I.hok.write mu he k heo new)
theorem Inv.weak {σ':List (Option V)} (I:Inv X pins σ H s) (hl:σ'.length=σ.length) (w:∀(i:Nat) v,σ'[i]? = some (some v)→σ[i]? = some (some v)):Inv X pins σ' H s :=
 ⟨I.ok,I.os,I.bare,I.base,let ⟨m,hn,hl'⟩:=I.loc;⟨m,hn,fun i x v e1 e2 e3=>hl' i x v e1 (w i v e2) e3⟩,I.cell,I.free,I.freeC,I.pin,I.hok,hl.trans I.len⟩
theorem Inv.pins_of {pins':List (Addr×Obj)} (I:Inv X pins σ H s) (h:∀p∈pins',s.heap.get? p.1=some p.2∧H p.1=none∧p.1≠X.env.locals∧p.1∉X.fs∧∀v,p.2.data≠.cell v):Inv X pins' σ H s :=
 ⟨I.ok,I.os,I.bare,I.base,I.loc,I.cell,I.free,I.freeC,fun p hp=>(Ev.mp hp).elim (fun z=>I.pin p (List.mem_append_left _ z)) (h p),I.hok,I.len⟩
theorem rl {N:List Str} (hN:N.Nodup) {i j:Nat} {x:Str} (a:N[i]? = some x) (b:N[j]? = some x):i=j:=by
 obtain⟨h1,e1⟩:=AK.mp a
 obtain⟨h2,e2⟩:=AK.mp b
 exact(List.getElem_inj hN).mp (e1.trans e2.symm)
theorem ve {M:Model} {A:Around} {E:Value→Shared→Prop} {i:Nat} {x:Str} {v:V} {u:Value} {Q:Unit→Shared→Prop} (I:Inv X pins σ H s) (hN:X.N.Nodup) (hi:X.N[i]? = some x) (hx:Loc X.env.scope x) (r:RelV v u)
  (h:∀s',Inv X pins (σ.set i (some v)) H s'→(∃a,Heap.SameBut a s.heap s'.heap∧(a=X.env.locals∨X.env.cells.lookup x=some a))→Q () s') (hf:X.fn x=true∨X.env.scope.names.lookup x=some .local:=by first | exact .inl rfl | exact .inr rfl | assumption):wpAny M A (storeName X.env x u) Q E s:=by
 obtain⟨m,hn,hl⟩:=id I.loc
 have hcls:(X.env.scope.kind==.class || (X.env.scope.kind==.module&&X.env.locals != X.env.globals))=false:=by rw[I.ok.kind];rfl
 have hiσ:i<σ.length:=by rw[I.len];exact(AK.mp hi).1
 have cne:=I.cne
 have tracked:∀{a:Addr} {h':Heap},(∃o,s.heap.get? a=some o∧H a=none)→Heap.SameBut a s.heap h'→HOk X.prog X.w H h':=fun {a h'} ha hs b ob e=>by
  obtain⟨_,_,hfree⟩:=ha
  refine(I.hok b ob e).stay (fun c w' hc q=>(hs.2 c ?_).trans q) (fun _ q=>q) fun _ _ q=>q
  rintro rfl
  rcases hc with rfl | hc
  ·rw[hfree]at e;cases e
  ·rw[hfree]at hc;cases hc
 rcases hx with hk | hk
 ·refine wpAny_storeName_local hk hn (fun h' hn' hs=>?_) hcls
  obtain⟨oL,_,_,hoL,_⟩:=id hn
  refine h _ ⟨I.ok,I.os,I.bare,⟨fun b o e n hb hx=>?_,fun b o e n hb hx=>?_,I.base.free,fun b o e hx=>?_,I.base.tups,I.base.frzs,I.base.tbls⟩,⟨_,hn',fun j y v' e1 e2 e3=>?_⟩,fun y c e=>?_,I.free,I.freeC,fun p hp=>?_,tracked ⟨oL,hoL,I.free⟩ hs,by simpa using I.len⟩ ⟨_,hs,.inl rfl⟩
  ·exact(hs.2 b (AI (AO (AF e) I.ok.above))).trans (I.base.keep b o e n hb hx)
  ·obtain⟨sl,e1⟩:=I.base.slot b o e n hb hx
   exact⟨sl,(hs.2 b (AI (AO (AF e) I.ok.above))).trans e1⟩
  ·obtain⟨o',e1⟩:=I.base.there b o e hx
   exact⟨o',(hs.2 b (AI (AO (AF e) I.ok.above))).trans e1⟩
  ·by_cases hj:j=i
   ·subst hj
    rw[hi]at e1;cases e1
    rw[CM hiσ]at e2
    cases e2
    exact⟨u,r,.inl ⟨hk,by simp⟩⟩
   ·rw[BY (Ne.symm hj)]at e2
    obtain⟨u',r',q⟩:=hl j y v' e1 e2 e3
    refine⟨u',r',?_⟩
    rcases q with⟨k,e⟩ | ⟨k,c,e,z⟩
    ·refine .inl ⟨k,?_⟩
     have:y≠x:=fun e=>hj (rl hN e1 (e ▸ hi))
     simp[this,e]
    ·exact .inr ⟨k,c,e,z.sameBut hs (cne y c e)⟩
  ·obtain⟨w',z⟩:=I.cell y c e
   exact⟨w',z.sameBut hs (cne y c e)⟩
  ·obtain⟨e,n,ne,nf,d⟩:=I.pin p hp
   exact⟨(hs.2 p.1 ne).trans e,n,ne,nf,d⟩
 ·have hfn:X.fn x=true:=by
   rcases hf with z | z
   ·exact z
   ·rw[z]at hk;cases hk
  obtain⟨c,hc⟩:=I.ok.has x (.inl hk)
  obtain⟨w',z⟩:=I.cell x c hc
  refine wpAny_storeName_cell I.ok.kind hk hc z (fun h' hc' hs=>?_)
  obtain⟨oc,hoc,hocd⟩:=id z
  refine h {s with heap:=h'} ⟨I.ok,I.os,I.bare,⟨fun b o e n hb hx=>?_,fun b o e n hb hx=>?_,I.base.free,fun b o e hx=>?_,I.base.tups,I.base.frzs,I.base.tbls⟩,⟨m,hn.sameBut hs (Ne.symm (cne x c hc)),fun j y v' e1 e2 e3=>?_⟩,fun y c' e=>?_,I.free,I.freeC,fun p hp=>?_,tracked ⟨oc,hoc,I.freeC x c hc⟩ hs,by simpa using I.len⟩ ⟨c,hs,.inr hc⟩
  ·exact(hs.2 b (AI (AO (AF e) (I.ok.cab x c hfn hc)))).trans (I.base.keep b o e n hb hx)
  ·obtain⟨sl,e1⟩:=I.base.slot b o e n hb hx
   exact⟨sl,(hs.2 b (AI (AO (AF e) (I.ok.cab x c hfn hc)))).trans e1⟩
  ·obtain⟨o',e1⟩:=I.base.there b o e hx
   exact⟨o',(hs.2 b (AI (AO (AF e) (I.ok.cab x c hfn hc)))).trans e1⟩
  ·by_cases hj:j=i
   ·subst hj
    rw[hi]at e1;cases e1
    rw[CM hiσ]at e2
    cases e2
    exact⟨u,r,.inr ⟨.inl hk,c,hc,hc'⟩⟩
   ·rw[BY (Ne.symm hj)]at e2
    obtain⟨u',r',q⟩:=hl j y v' e1 e2 e3
    refine⟨u',r',?_⟩
    rcases q with q | ⟨k,c',e,z'⟩
    ·exact .inl q
    ·refine .inr ⟨k,c',e,z'.sameBut hs ?_⟩
     rintro rfl
     exact hj (rl hN e1 (I.ok.inj _ _ _ e hc ▸ hi))
  ·by_cases hcc:c'=c
   ·subst hcc;exact⟨_,hc'⟩
   ·obtain⟨w2,z2⟩:=I.cell y c' e
    exact⟨w2,z2.sameBut hs hcc⟩
  ·obtain⟨e,n,ne,nf,d⟩:=I.pin p hp
   refine⟨(hs.2 p.1 ?_).trans e,n,ne,nf,d⟩
   intro q
   rw[q,hoc]at e
   have q':oc=p.2:=BF e
   exact d w' (by rw[←q'];exact hocd)
theorem rm {M:Model} {A:Around} {E:Value→Shared→Prop} {i:Nat} {x:Str} {v:V} {u:Value} {Q:Unit→Shared→Prop} (I:Inv X pins σ H s) (hN:X.N.Nodup) (hi:X.N[i]? = some x) (hx:Loc X.env.scope x) (r:RelV v u)
  (h:∀s',Inv X pins (σ.set i (some v)) H s'→Q () s') (hf:X.fn x=true∨X.env.scope.names.lookup x=some .local:=by first | exact .inl rfl | exact .inr rfl | assumption):wpAny M A (storeName X.env x u) Q E s :=
 ve I hN hi hx r (fun s' I' _=>h s' I') hf
theorem Inv.call' {s':Shared} {ch:List Addr} (I:Inv X pins σ H s) (ho:s'.os=s.os) (u:Un (frs X.stack) ch H H' s.heap s'.heap) (hok:HOk X.prog X.w H' s'.heap) (hg:AllBare s'.gens)
  (hch:∀b∈ch,(b∈X.ex∨X.s₀.heap.objs.size≤b)∧b≠X.env.locals∧(∀x c,X.env.cells.lookup x=some c→c≠b)∧∀p∈X.pn++pins,p.1≠b):Inv X pins σ H' s':=by
 obtain⟨h',g',d',t',o'⟩:=s'
 have e:o'=s.os:=ho
 subst e
 exact I.call (g':=g') (t':=t') (d':=d') u hok hg hch
end
noncomputable abbrev XK:=Value→Option Addr→Hp→Prop
noncomputable abbrev St:=List (Option V)
noncomputable abbrev VK:=V→Hp→Prop
noncomputable abbrev TE:=St→Hp→VK→Prop
noncomputable abbrev TT:=St→Hp→(Bool→Hp→Prop)→Prop
noncomputable abbrev TA:=St→Hp→(List V→Hp→Prop)→Prop
structure Ends where
 nx:St→Hp→Prop
 rt:VK
 bk:St→Hp→Prop:=fun _ _=>False
 ct:St→Hp→Prop:=fun _ _=>False
noncomputable abbrev TS:=Ends→St→Hp→Prop
noncomputable def EP (X:Cx) (pins:List (Addr×Obj)) (σ:St) (Q:VK) (u:Value) (s':Shared):Prop:=∃v H',Inv X pins σ H' s'∧RelV v u∧Q v H'
noncomputable def TP (X:Cx) (pins:List (Addr×Obj)) (σ:St) (Q:Bool→Hp→Prop) (b:Bool) (s':Shared):Prop:=∃H',Inv X pins σ H' s'∧Q b H'
noncomputable def AP (X:Cx) (pins:List (Addr×Obj)) (σ:St) (Q:List V→Hp→Prop) (us:List Value) (s':Shared):Prop:=∃vs H',Inv X pins σ H' s'∧a9 vs us∧Q vs H'
noncomputable def SP (X:Cx) (pins:List (Addr×Obj)) (D:Ends) (f:Flow) (s':Shared):Prop :=
 match f with
 | .next=>∃σ' H',Inv X pins σ' H' s'∧D.nx σ' H'
 | .brk=>∃σ' H',Inv X pins σ' H' s'∧D.bk σ' H'
 | .cont=>∃σ' H',Inv X pins σ' H' s'∧D.ct σ' H'
 | .ret u=>∃v σ' H',Inv X pins σ' H' s'∧RelV v u∧D.rt v H'
noncomputable def PE (X:Cx) (e:Expr) (t:TE):Prop :=
 ∀(pins:List (Addr×Obj)) (s:Shared) (σ:St) (H:Hp) (Q:VK),Inv X pins σ H s→t σ H Q→wpAny (model X.prog X.w) X.A (eval e X.env) (EP X pins σ Q) X.xe s
noncomputable def PT (X:Cx) (e:Expr) (t:TT):Prop :=
 ∀(pins:List (Addr×Obj)) (s:Shared) (σ:St) (H:Hp) (Q:Bool→Hp→Prop),Inv X pins σ H s→t σ H Q→wpAny (model X.prog X.w) X.A (isTrue e X.env (eval e X.env)) (TP X pins σ Q) X.xe s
noncomputable def PW (X:Cx) (e:Expr) (t:TT):Prop :=
 ∀(whole:Sem Value) (pins:List (Addr×Obj)) (s:Shared) (σ:St) (H:Hp) (Q:Bool→Hp→Prop),Inv X pins σ H s→t σ H Q→wpAny (model X.prog X.w) X.A (isTrue e X.env whole) (TP X pins σ Q) X.xe s
theorem PW.pt {X:Cx} {e:Expr} {t:TT} (h:PW X e t):PT X e t:=h _
noncomputable def PA (X:Cx) (es:List Expr) (t:TA):Prop :=
 ∀(pos:Pos) (pins:List (Addr×Obj)) (s:Shared) (σ:St) (H:Hp) (Q:List V→Hp→Prop),Inv X pins σ H s→t σ H Q→wpAny (model X.prog X.w) X.A (spliced (backTo pos (starEach es X.env))) (AP X pins σ Q) X.xe s
noncomputable def PS (X:Cx) (st:Stmt) (t:TS):Prop :=
 ∀(pins:List (Addr×Obj)) (s:Shared) (σ:St) (H:Hp) (D:Ends),Inv X pins σ H s→t D σ H→wpAny (model X.prog X.w) X.A (exec st X.env) (SP X pins D) X.xe s
noncomputable def PSs (X:Cx) (st:List Stmt) (t:TS):Prop :=
 ∀(pins:List (Addr×Obj)) (s:Shared) (σ:St) (H:Hp) (D:Ends),Inv X pins σ H s→t D σ H→wpAny (model X.prog X.w) X.A (execs st X.env) (SP X pins D) X.xe s
theorem thn {α:Type} {t:Sem α} {Q Q':α→Shared→Prop} {M:Model} {A:Around} {E:Value→Shared→Prop} {s:Shared} (h:wpAny M A t Q E s) (hQ:∀a s,Q a s→Q' a s):wpAny M A t Q' E s:=Da h hQ fun _ _ x=>x
end L2
namespace L2
open PySem PySem.Spec PyProof.Rows
section
variable {X : Cx}
theorem bin {a b:Expr} {ta tb:TE} (ha:PE X a ta) (hb:PE X b tb) {pins:List (Addr×Obj)} {s:Shared} {σ:St} {H:Hp} {R:V→V→Hp→Prop} (I:Inv X pins σ H s) (h:ta σ H fun x H1=>tb σ H1 fun y H2=>R x y H2)
  {α:Type} {Q:α→Shared→Prop} {f:Value→Value→Sem α}
  (hf:∀v u s2 x y H2,Inv X pins σ H2 s2→RelV x v→RelV y u→R x y H2→wpAny (model X.prog X.w) X.A (f v u) Q X.xe s2) :
  wpAny (model X.prog X.w) X.A (eval a X.env) (fun v s₁=>wpAny (model X.prog X.w) X.A (eval b X.env) (fun u s₂=>wpAny (model X.prog X.w) X.A (f v u) Q X.xe s₂) X.xe s₁) X.xe s:=by
 refine thn (ha pins s σ H _ I h) fun v s1 ⟨x,H1,I1,r1,q1⟩=>?_
 refine thn (hb pins s1 σ H1 _ I1 q1) fun u s2 ⟨y,H2,I2,r2,q2⟩=>?_
 exact hf v u s2 x y H2 I2 r1 r2 q2
noncomputable def Ky (i:Nat):TE:=fun σ H Q=>∃v,σ[i]? = some (some v)∧Q v H
noncomputable def tC (v:V):TE:=fun _ H Q=>Q v H
theorem vf {i:Nat} {x:Str} {pos:Pos} (hN:X.N[i]? = some x) (hv:Vis X.env.scope x) (hd:(x==("__debug__":Str))=false:=by decide) (hcd:(x==("__classdict__":Str))=false:=by decide):PE X (.Name x pos) (Ky i):=by
 intro pins s σ H Q I h
 obtain⟨v,e,h⟩:=h
 obtain⟨m,hn,hl⟩:=I.loc
 obtain⟨u,r,l⟩:=hl i x v hN e hv
 have fin:EP X pins σ Q u s:=⟨v,H,I,r,h⟩
 rcases l with⟨hk,hm⟩ | ⟨hk,c,hc,hcell⟩
 ·exact wpAny_Name (wpAny_loadName_local I.ok.kind hk hn hm fin) hd
 ·rcases hk with hk | hk
  ·exact wpAny_Name (wpAny_loadName_cell I.ok.kind hk hc hcell fin) hd
  ·exact wpAny_Name (wpAny_loadName_free I.ok.kind hk hc hcell fin hcd) hd
theorem Ea {i j pos}:PE X (.Constant (.int i) j pos) (tC (.int i)):=fun _ _ _ H _ I h=>wpAny_Constant_int ⟨.int i,H,I.tok _,⟨_,rfl⟩,h⟩
theorem Hk {b j pos}:PE X (.Constant (.bool b) j pos) (tC (.bl b)):=fun _ _ _ H _ I h=>Constant_bool ⟨.bl b,H,I,rfl,h⟩
theorem Eb {j pos}:PE X (.Constant .none j pos) (tC .non):=fun _ _ _ H _ I h=>Constant_none ⟨.non,H,I,rfl,h⟩
noncomputable def Gl (X:Cx) (x:Str):Prop:=X.env.kindOf x=some .globalImplicit
theorem Bx {E:Value→Shared→Prop} {pins:List (Addr×Obj)} {s:Shared} {σ:St} {H:Hp} {x:Str} {u:Value} {pos:Pos} {Q:Value→Shared→Prop} (I:Inv X pins σ H s) (hg:Gl X x) (hm:X.mg x=some u) (h:Q u s)
  (hd:(x==("__debug__":Str))=false:=by decide):wpAny (model X.prog X.w) X.A (eval (.Name x pos) X.env) Q E s :=
 FF I.ok.kind hg (Calls.loadGlobal_global (by rw[I.ok.glob];exact I.mod.glob.keeps I.bk) hm h) hd
theorem i5 {E:Value→Shared→Prop} {pins:List (Addr×Obj)} {s:Shared} {σ:St} {H:Hp} {x:Str} {u:Value} {pos:Pos} {Q:Value→Shared→Prop} (I:Inv X pins σ H s) (hg:Gl X x) (hm:X.mg x=none) (hv:bootBuiltins x=some u) (h:Q u s)
  (hn:x≠"__name__":=by decide) (hd:(x==("__debug__":Str))=false:=by decide):wpAny (model X.prog X.w) X.A (eval (.Name x pos) X.env) Q E s:=by
 obtain⟨mb,h1,h2⟩:=I.mod.blt
 exact FF I.ok.kind hg (Calls.loadGlobal_builtin (by rw[I.ok.glob];exact I.mod.glob.keeps I.bk) hm (by rw[I.ok.blt];exact h1.keeps I.bk) ((h2 x hn).trans hv) h) hd
theorem By {x:Str} {v:V} {u:Value} {pos:Pos} (hg:Gl X x) (hm:X.mg x=none) (hv:bootBuiltins x=some u) (r:RelV v u) (hn:x≠"__name__":=by decide) (hd:(x==("__debug__":Str))=false:=by decide):PE X (.Name x pos) (tC v) :=
 fun _ _ _ H _ I h=>i5 I hg hm hv ⟨v,H,I,r,h⟩ hn hd
variable {a b : Expr} {ta tb : TE} {pos : Pos}
variable {tA tB' : TT} {rest : List Expr}
noncomputable def Mx (t u:TT):TT:=fun σ H Q=>t σ H fun c H1=>if c=true then u σ H1 Q else Q false H1
noncomputable def tOr (t u:TT):TT:=fun σ H Q=>t σ H fun c H1=>if c=true then Q true H1 else u σ H1 Q
noncomputable def My (t:TT):TT:=fun σ H Q=>t σ H fun c H1=>Q (!c) H1
theorem Bz (ha:PT X a tA):PW X (.BoolOp .And [a] pos) tA:=by
 intro wh pins s σ H Q I h
 refine isTrue_and (thn (ha pins s σ H Q I h) fun c s1 e=>?_)
 cases c with
 | true=>exact isTrue_and_nil e
 | false=>exact e
theorem Ec (ha:PT X a tA):PW X (.BoolOp .Or [a] pos) tA:=by
 intro wh pins s σ H Q I h
 refine isTrue_or (thn (ha pins s σ H Q I h) fun c s1 e=>?_)
 cases c with
 | false=>exact isTrue_or_nil e
 | true=>exact e
theorem Ed (ha:PT X a tA) (hb:PW X (.BoolOp .And (b::rest) pos) tB'):PW X (.BoolOp .And (a::b::rest) pos) (Mx tA tB'):=by
 intro wh pins s σ H Q I h
 refine isTrue_and (thn (ha pins s σ H _ I h) fun c s1 ⟨H1,I1,q1⟩=>?_)
 cases c with
 | true=>exact hb wh pins s1 σ H1 Q I1 q1
 | false=>exact⟨H1,I1,q1⟩
theorem Hl (ha:PT X a tA) (hb:PW X (.BoolOp .Or (b::rest) pos) tB'):PW X (.BoolOp .Or (a::b::rest) pos) (tOr tA tB'):=by
 intro wh pins s σ H Q I h
 refine isTrue_or (thn (ha pins s σ H _ I h) fun c s1 ⟨H1,I1,q1⟩=>?_)
 cases c with
 | true=>exact⟨H1,I1,q1⟩
 | false=>exact hb wh pins s1 σ H1 Q I1 q1
theorem Ee (ha:PT X a tA):PT X (.UnaryOp .Not a pos) (My tA):=by
 intro pins s σ H Q I h
 exact isTrue_not (ha pins s σ H (fun c H1=>Q (!c) H1) I h)
noncomputable def Hm (ta tb:TE):TE:=fun σ H Q=>ta σ H fun x H1=>∃c,x=.bl c∧if c=true then tb σ H1 Q else Q (.bl false) H1
noncomputable def Hn (ta:TE):TE:=fun σ H Q=>ta σ H fun x H1=>∃c,x=.bl c∧Q (.bl (!c)) H1
theorem Ef {op} {t:TE} (h:PE X a t):PE X (.BoolOp op [a] pos) t:=fun pins s σ H Q I hw=>BoolOp_one (h pins s σ H Q I hw)
theorem Eg (ha:PE X a ta) (hb:PE X (.BoolOp .And (b::rest) pos) tb):PE X (.BoolOp .And (a::b::rest) pos) (Hm ta tb):=by
 intro pins s σ H Q I h
 refine BoolOp_and (thn (ha pins s σ H _ I h) fun v s1 ⟨x,H1,I1,r1,q1⟩=>?_)
 obtain⟨c,rfl,q1⟩:=q1
 cases r1
 refine CW ?_
 cases c with
 | true=>exact hb pins s1 σ H1 Q I1 q1
 | false=>exact⟨.bl false,H1,I1,rfl,q1⟩
theorem Eh (ha:PE X a ta):PE X (.UnaryOp .Not a pos) (Hn ta):=by
 intro pins s σ H Q I h
 refine UnaryOp_ (thn (ha pins s σ H _ I h) fun v s1 ⟨x,H1,I1,r1,q1⟩=>?_)
 obtain⟨c,rfl,q1⟩:=q1
 cases r1
 exact not_of (CW ⟨.bl (!c),H1,I1,rfl,q1⟩)
end
end L2
namespace L2
open PySem PySem.Spec PyProof.Rows
noncomputable def SqL (K:PySem.W.Frag) (H:Hp) (a:Addr) (xs:List V):Prop :=
 Rd H a (.lst xs) ∨
  ∃(o:Obj) (its:Array Value) (n:Nat),K.lookup a=some o∧o.cls=.type "list"∧o.dict=none∧o.data=.seq its n∧its.size≤sizeLine∧a9 xs its.toList
noncomputable def SqT (K:PySem.W.Frag) (H:Hp) (a:Addr) (xs:List V):Prop :=
 Rd H a (.tup xs) ∨
  ∃(o:Obj) (its:Array Value) (n:Nat),K.lookup a=some o∧o.cls=.type "tuple"∧o.data=.seq its n∧its.size≤sizeLine∧a9 xs its.toList∧o.dict=none
noncomputable def Mz:Value→Option V
 | .none=>some .non
 | .bool b=>some (.bl b)
 | .int i _=>some (.int i)
 | .str x _=>some (.str x)
 | .bytes b _=>some (.byt b)
 | .float b _=>some (.flt b)
 | .ref a=>some (.ref a)
 | .type n=>some (.ty n)
 | _=>none
theorem RelV.abs {x:V} {u:Value} (r:RelV x u):Mz u=some x:=by
 cases x with
 | non=>cases r;rfl
 | bl _=>cases r;rfl
 | int _=>obtain⟨t,rfl⟩:=r;rfl
 | str _=>obtain⟨t,rfl⟩:=r;rfl
 | byt _=>obtain⟨t,rfl⟩:=r;rfl
 | flt _=>obtain⟨t,rfl⟩:=r;rfl
 | ref _=>cases r;rfl
 | ty _=>cases r;rfl
theorem RelV.inj {x y:V} {u:Value} (r:RelV x u) (q:RelV y u):x=y:=BF (r.abs.symm.trans q.abs)
theorem a9.inj:∀{xs ys:List V} {us:List Value},a9 xs us→a9 ys us→xs=ys
 | _,_,_,.nil,.nil=>rfl
 | _,_,_,.cons r t,.cons r' t'=>by rw[r.inj r',a9.inj t t']
section
variable {X : Cx} {pins : List (Addr × Obj)} {σ : St} {H : Hp} {s : Shared} {a : Addr} {xs ys : List V}
theorem SqL.of {K:PySem.W.Frag} (h:H a=some (.lst xs)):SqL K H a xs:=.inl (.inl h)
theorem SqT.of {K:PySem.W.Frag} (h:H a=some (.tup xs)):SqT K H a xs:=.inl (.inl h)
theorem Inv.list (I:Inv X pins σ H s) (h:SqL X.K H a xs):∃its:List Value,a9 xs its∧PlainL s.heap a its.toArray∧xs.length≤sizeLine:=by
 rcases h with h | ⟨o,its,n,hk,hc,hd,hs,hz,r⟩
 ·obtain⟨z,its,n,r,e⟩:=h.ok I.hok
  exact⟨its,r,⟨_,n,e,rfl,rfl,rfl⟩,z⟩
 ·refine⟨its.toList,r,⟨o,n,I.kIn a o hk,hc,hd,by simpa using hs⟩,?_⟩
  have e:=r.length
  simp only[BM]at e
  lia
theorem Inv.tuple (I:Inv X pins σ H s) (h:SqT X.K H a xs):∃its:List Value,a9 xs its∧IsTup s.heap a its.toArray∧xs.length≤sizeLine:=by
 rcases h with h | ⟨o,its,n,hk,hc,hs,hz,r,_⟩
 ·obtain⟨z,its,r,p⟩:=h.ok I.hok
  exact⟨its,r,p.tup,z⟩
 ·refine⟨its.toList,r,⟨o,I.kIn a o hk,hc,n,by simpa using hs⟩,?_⟩
  have e:=r.length
  simp only[BM]at e
  lia
theorem Inv.list_inj (I:Inv X pins σ H s) (h:SqL X.K H a xs) (h':SqL X.K H a ys):xs=ys:=by
 obtain⟨its,r,⟨o,n,e,_,_,d⟩,_⟩:=I.list h
 obtain⟨its',r',⟨o',n',e',_,_,d'⟩,_⟩:=I.list h'
 rw[e]at e';cases e'
 rw[d]at d'
 injection d' with d1 _
 have:its=its':=by simpa using congrArg Array.toList d1
 subst this
 exact r.inj r'
theorem Inv.tuple_inj (I:Inv X pins σ H s) (h:SqT X.K H a xs) (h':SqT X.K H a ys):xs=ys:=by
 obtain⟨its,r,⟨o,e,_,n,d⟩,_⟩:=I.tuple h
 obtain⟨its',r',⟨o',e',_,n',d'⟩,_⟩:=I.tuple h'
 rw[e]at e';cases e'
 rw[d]at d'
 injection d' with d1 _
 have:its=its':=by simpa using congrArg Array.toList d1
 subst this
 exact r.inj r'
end
noncomputable abbrev Cx.wish (X:Cx) (E:Value→Shared→Prop):Cx:={X with xe:=E}
noncomputable abbrev Cx.nox (X:Cx):Cx:=X.wish fun _ _=>False
theorem Cx.Ok.wish {X:Cx} (ok:X.Ok) (E:Value→Shared→Prop):(X.wish E).Ok :=
 ⟨ok.mod,ok.kind,ok.glob,ok.blt,ok.above,ok.inj,ok.has,ok.cab,ok.hd,ok.frames,ok.stk,ok.exf,ok.bs,ok.bsz,ok.noex,ok.exfs,ok.funs,ok.frf⟩
theorem Cx.Ok.unwish {X:Cx} {E:Value→Shared→Prop} (ok:(X.wish E).Ok):X.Ok :=
 ⟨ok.mod,ok.kind,ok.glob,ok.blt,ok.above,ok.inj,ok.has,ok.cab,ok.hd,ok.frames,ok.stk,ok.exf,ok.bs,ok.bsz,ok.noex,ok.exfs,ok.funs,ok.frf⟩
section
variable {X : Cx} {pins : List (Addr × Obj)} {σ : St} {H : Hp} {s : Shared} {E : Value → Shared → Prop}
theorem Inv.wish (I:Inv X pins σ H s) (E:Value→Shared→Prop):Inv (X.wish E) pins σ H s:=⟨I.ok.wish E,I.os,I.bare,I.base,I.loc,I.cell,I.free,I.freeC,I.pin,I.hok,I.len⟩
theorem Inv.unwish (I:Inv (X.wish E) pins σ H s):Inv X pins σ H s:=⟨I.ok.unwish,I.os,I.bare,I.base,I.loc,I.cell,I.free,I.freeC,I.pin,I.hok,I.len⟩
theorem SP.unwish {D:Ends} {f:Flow} {s':Shared} (h:SP (X.wish E) pins D f s'):SP X pins D f s':=by
 cases f with
 | next=>obtain⟨σ',H',I,q⟩:=h;exact⟨σ',H',I.unwish,q⟩
 | brk=>obtain⟨σ',H',I,q⟩:=h;exact⟨σ',H',I.unwish,q⟩
 | cont=>obtain⟨σ',H',I,q⟩:=h;exact⟨σ',H',I.unwish,q⟩
 | ret u=>obtain⟨v,σ',H',I,r,q⟩:=h;exact⟨v,σ',H',I.unwish,r,q⟩
theorem PSs.nox {st:List Stmt} {t:TS} (h:PSs X.nox st t):PSs X st t:=fun pins s σ H D I hw =>
 Da (h pins s σ H D (I.wish _) hw) (fun _ _ q=>q.unwish) fun _ _ z=>False.elim z
end
section
variable {X : Cx} {st : Stmt} {rest : List Stmt} {t u : TS} {e : Expr} {te : TE} {pos : Pos}
noncomputable def tNext:TS:=fun D σ H=>D.nx σ H
noncomputable def M0 (t u:TS):TS:=fun D σ H=>t {D with nx:=u D} σ H
theorem B0:PSs X [] tNext:=fun _ _ σ H _ I h=>wpAny_execs_nil ⟨σ,H,I,h⟩
theorem zj (h1:PS X st t) (h2:PSs X rest u):PSs X (st::rest) (M0 t u):=by
 intro pins s σ H D I h
 refine wpAny_execs_cons (thn (h1 pins s σ H {D with nx:=u D} I h) fun f s1 q=>?_)
 cases f with
 | next =>
  obtain⟨σ',H',I',q⟩:=q
  exact h2 pins s1 σ' H' D I' q
 | ret v=>exact q
 | brk=>exact q
 | cont=>exact q
theorem Inv.quiet {pins:List (Addr×Obj)} {σ:St} {H:Hp} {s:Shared} (I:Inv X pins σ H s):interactive X.env=false:=by simp[interactive,I.ok.kind]
noncomputable def Ho (te:TE):TS:=fun D σ H=>te σ H fun _ H1=>D.nx σ H1
theorem B3 (he:PE X e te) (hs:swapsWith e none pos.line X.env=pure false:=by rfl):PS X (.Expr e pos) (Ho te):=by
 intro pins s σ H D I h
 exact wpAny_Expr_any (thn (he pins s σ H _ I h) fun v s1 ⟨x,H1,I1,r1,q1⟩=>⟨σ,H1,I1,q1⟩) I.quiet hs
noncomputable def M1 (te:TE):TS:=fun D σ H=>te σ H D.rt
theorem Ei (he:PE X e te):PS X (.Return (some e) pos) (M1 te):=by
 intro pins s σ H D I h
 exact wpAny_Return_some (thn (he pins s σ H _ I h) fun v s1 ⟨x,H1,I1,r1,q1⟩=>⟨x,σ,H1,I1,r1,q1⟩)
noncomputable def M3 (c:TT) (t u:TS):TS:=fun D σ H=>c σ H fun b H1=>if b=true then t D σ H1 else u D σ H1
theorem Hq {c:Expr} {a b:List Stmt} {tc:TT} (hc:PT X c tc) (ha:PSs X a t) (hb:PSs X b u):PS X (.If c a b pos) (M3 tc t u):=by
 intro pins s σ H D I h
 refine wpAny_If (thn (hc pins s σ H _ I h) fun d s1 ⟨H1,I1,q1⟩=>?_)
 cases d with
 | true=>exact ha pins s1 σ H1 D I1 q1
 | false=>exact hb pins s1 σ H1 D I1 q1
end
noncomputable abbrev TG:=V→St→Hp→(St→Hp→Prop)→Prop
noncomputable abbrev TGs:=List V→St→Hp→(St→Hp→Prop)→Prop
noncomputable def PG (X:Cx) (target:Expr) (t:TG):Prop :=
 ∀(pins:List (Addr×Obj)) (s:Shared) (σ:St) (H:Hp) (v:V) (u:Value) (Q:St→Hp→Prop),Inv X pins σ H s→RelV v u→t v σ H Q →
  wpAny (model X.prog X.w) X.A (assign target X.env u) (fun _ s'=>∃σ' H',Inv X pins σ' H' s'∧Q σ' H') X.xe s
noncomputable def PGs (X:Cx) (ts:List Expr) (t:TGs):Prop :=
 ∀(pins:List (Addr×Obj)) (s:Shared) (σ:St) (H:Hp) (vs:List V) (us:List Value) (Q:St→Hp→Prop),Inv X pins σ H s→a9 vs us→t vs σ H Q →
  wpAny (model X.prog X.w) X.A (assignInOrder ((assignEach ts X.env).map (·.2)) us) (fun _ s'=>∃σ' H',Inv X pins σ' H' s'∧Q σ' H') X.xe s
section
variable {X : Cx} {pos : Pos}
noncomputable def B4 (i:Nat):TG:=fun v σ H Q=>Q (σ.set i (some v)) H
theorem vg {i:Nat} {x:Str} (hN:X.N.Nodup) (hi:X.N[i]? = some x) (hx:Loc X.env.scope x) (hf:X.fn x=true∨X.env.scope.names.lookup x=some .local:=by first | exact .inl rfl | exact .inr rfl | assumption):PG X (.Name x pos) (B4 i):=by
 intro pins s σ H v u Q I r h
 exact wpAny_assign_Name (rm I hN hi hx r (fun s' I'=>⟨_,H,I',h⟩) hf)
noncomputable def gNil:TGs:=fun vs σ H Q=>vs=[]∧Q σ H
noncomputable def Hr (t:TG) (u:TGs):TGs:=fun vs σ H Q=>∃v r,vs=v::r∧t v σ H fun σ' H'=>u r σ' H' Q
theorem B5:PGs X [] gNil:=by
 intro pins s σ H vs us Q I r h
 obtain⟨e,h⟩:=h
 subst e
 cases r
 exact assignInOrder_nil ⟨σ,H,I,h⟩
theorem zk {e:Expr} {es:List Expr} {t:TG} {u:TGs} (h1:PG X e t) (h2:PGs X es u)
  (hs:(assignEach (e::es) X.env).map (·.2)=assign e X.env::(assignEach es X.env).map (·.2):=by rfl):PGs X (e::es) (Hr t u):=by
 intro pins s σ H vs us Q I r h
 obtain⟨v,vr,e1,h⟩:=h
 subst e1
 cases r with
 | cons r rr =>
  rw[hs]
  refine assignInOrder_cons (thn (h1 pins s σ H _ _ _ I r h) fun _ s1 ⟨σ1,H1,I1,q1⟩=>?_)
  exact h2 pins s1 σ1 H1 _ _ Q I1 rr q1
noncomputable def M4 (K:PySem.W.Frag) (n:Nat) (t:TGs):TG:=fun v σ H Q=>∃a xs,v=.ref a∧SqT K H a xs∧xs.length=n∧t xs σ H Q
theorem Ej {es:List Expr} {k:Nat} {t:TGs} {n:Nat} (hc:X.calm=true) (h:PGs X es t)
  (hn:(assignEach es X.env).length=n:=by rfl) (hst:(assignEach es X.env).findIdx? (·.1)=none:=by rfl):PG X (.Tuple es k pos) (M4 X.K n t):=by
 intro pins s σ H v u Q I r hw
 obtain⟨a,xs,e1,hq,hl,hw⟩:=hw
 subst e1
 cases r
 obtain⟨its,rv,ht,hz⟩:=I.tuple hq
 refine assign_Tuple_tuple (I.ok.hd hc) ht (by simp[hn,←hl,rv.length]) hst fun h' hx=>?_
 have I1:Inv X pins σ H {s with heap:=h'}:=I.kept (t':=s.toks) fun b o e=>hx b o (AI (AF e)) e
 exact h pins _ σ H xs _ Q I1 (by simpa using rv) hw
noncomputable def Kz (te:TE) (g:TG):TS:=fun D σ H=>te σ H fun x H1=>g x σ H1 D.nx
theorem Ek {tg e:Expr} {te:TE} {g:TG} (he:PE X e te) (hg:PG X tg g) (hs:swapsWithSole [tg] e pos.line X.env=pure false:=by rfl) (hw:swappedStores [tg] e X.env=pure none:=by rfl)
  (h1:(assignEach [tg] X.env).map (·.2)=[assign tg X.env]:=by rfl):PS X (.Assign [tg] e pos) (Kz te g):=by
 intro pins s σ H D I h
 refine wpAny_Assign_stores (thn (he pins s σ H _ I h) fun v s1 ⟨x,H1,I1,r1,q1⟩=>?_) hs hw
 rw[h1]
 exact thn (hg pins s1 σ H1 x v _ I1 r1 q1) fun _ s2 q=>q
theorem El {i:Nat} {x:Str} {e:Expr} {te:TE} {pos':Pos} (hN:X.N.Nodup) (hi:X.N[i]? = some x) (hx:Loc X.env.scope x) (he:PE X e te) (hs:swapsWith e (some (.Name x pos')) pos.line X.env=pure false:=by rfl) (hf:X.fn x=true∨X.env.scope.names.lookup x=some .local:=by first | exact .inl rfl | exact .inr rfl | assumption) :
  PS X (.Assign [.Name x pos'] e pos) (Kz te (B4 i)):=by
 intro pins s σ H D I h
 refine wpAny_Assign_Name (thn (he pins s σ H _ I h) fun v s1 ⟨y,H1,I1,r1,q1⟩=>?_) hs
 exact rm I1 hN hi hx r1 (fun s2 I2=>⟨_,H1,I2,q1⟩) hf
end
structure It where
 go:Nat→Hp→Prop
 yld:Nat→Hp→V→Hp→Prop
 stop:Nat→Hp→Prop
noncomputable def u6 (X:Cx) (pins:List (Addr×Obj)) (H:Hp) (b:Addr):Prop :=
 H b=none∧b≠X.env.locals∧b∉X.fs∧(b∈X.ex∨X.s₀.heap.objs.size≤b)∧(∀x c,X.env.cells.lookup x=some c→c≠b)∧∀p∈X.pn++pins,p.1≠b
theorem Inv.fpOk {X:Cx} {pins:List (Addr×Obj)} {σ:St} {H H':Hp} {s:Shared} {b:Addr} (I:Inv X pins σ H s) (hb:s.heap.objs.size≤b) (hn:H' b=none):u6 X pins H' b:=by
 refine⟨hn,CN (AO I.lt hb),I.nofs hb,.inr (BV I.sz hb),fun x c e z=>?_,fun p hp z=>?_⟩
 ·obtain⟨v,q⟩:=I.cell x c e
  exact absurd (AO q.lt (by rw[z];exact hb)) (CA _)
 ·exact absurd (AO (AF (I.pin p hp).1) (by rw[z];exact hb)) (CA _)
structure Turn (P:Program) (w:World) (K:PySem.W.Frag) (tg:Expr) (J:It) (fp:List Addr) (it:Addr) (tn:Nat→Heap→Prop):Prop where
 mem:it∈fp
 obj:∀i h,tn i h→∀b∈fp,∃o,h.get? b=some o∧∀v,o.data≠.cell v
 keep:∀i h h',tn i h→(∀b∈fp,∀o,h.get? b=some o→h'.get? b=some o)→tn i h'
 item:∀(X:Cx),X.prog=P→X.w=w→X.K=K→X.calm=true→∀(i:Nat) (pins:List (Addr×Obj)) (s:Shared) (σ:St) (H:Hp) (E:Value→Shared→Prop),Inv X pins σ H s→(∀b∈fp,u6 X pins H b)→tn i s.heap→J.go i H →
  wpAny (model P w) X.A (pyNext (.ref it)) (fun r s1=>∃u,r=some u ∧
   wpAny (model P w) X.A (letOwnedTupleGo tg (.ref it) u) (fun _ s2=>∃x H',Inv X pins σ H' s2∧RelV x u∧J.yld i H x H'∧tn (i+1) s2.heap∧∀b∈fp,H' b=none) E s1) E s
 done:∀(X:Cx),X.prog=P→X.w=w→X.K=K→X.calm=true→∀(i:Nat) (pins:List (Addr×Obj)) (s:Shared) (σ:St) (H:Hp) (E:Value→Shared→Prop),Inv X pins σ H s→(∀b∈fp,u6 X pins H b)→tn i s.heap→J.stop i H →
  wpAny (model P w) X.A (pyNext (.ref it)) (fun r s1=>r=none∧Inv X pins σ H s1) E s
 self:∀(A:Around) (i:Nat) (s:Shared) (Q:Value→Shared→Prop) (E:Value→Shared→Prop),tn i s.heap→Q (.ref it) s→wpAny (model P w) A (pyIter (.ref it)) Q E s
noncomputable abbrev TI:=St→Hp→(It→Hp→Prop)→Prop
noncomputable def PIE (X:Cx) (pins:List (Addr×Obj)) (σ:St) (tg:Expr) (R:It→Hp→Prop) (itv:Value) (s2:Shared):Prop :=
 ∃(it:Addr) (fp:List Addr) (tn:Nat→Heap→Prop) (J:It) (H':Hp),itv=.ref it∧Inv X pins σ H' s2∧Turn X.prog X.w X.K tg J fp it tn∧tn 0 s2.heap∧(∀b∈fp,u6 X pins H' b)∧R J H'
noncomputable def PI (X:Cx) (tg iter:Expr) (wi:TI):Prop :=
 ∀(pins:List (Addr×Obj)) (s:Shared) (σ:St) (H:Hp) (R:It→Hp→Prop),Inv X pins σ H s→wi σ H R →
  wpAny (model X.prog X.w) X.A (eval iter X.env) (fun v s1=>wpAny (model X.prog X.w) X.A (pyIter v) (PIE X pins σ tg R) X.xe s1) X.xe s
theorem B6 {M:Model} {A:Around} {E:Value→Shared→Prop} {s:Shared} {tg:Expr} {it:Addr} {u:Value} {o:Obj} {n:String} {vs:Array Value} {Q:Unit→Shared→Prop} (ho:s.heap.get? it=some o) (hc:o.cls=.type n) (hd:o.data=.fields vs)
  (hn:["enumerate","zip","dict_itemiterator","dict_reverseitemiterator","odict_iterator","itertools.zip_longest","itertools.pairwise"].contains n=false) (hQ:Q () s):wpAny M A (letOwnedTupleGo tg (.ref it) u) Q E s:=by
 unfold letOwnedTupleGo
 cases tg<;>first
  | exact AD hQ
  | (cases u<;>first
    | exact AD hQ
    | (
     refine AA (wpAny_load ho ?_)
     rw[hc,hd]
     show wpAny M A (if(["enumerate","zip","dict_itemiterator","dict_reverseitemiterator","odict_iterator","itertools.zip_longest","itertools.pairwise"].contains n&&vs[0]?==some (rawInt _))=true then _ else _) Q E s
     rw[if_neg (by intro h;rw[hn,Bool.false_and]at h;cases h)]
     exact AD hQ))
noncomputable def Itl (K:PySem.W.Frag) (a:Addr):It :=
 ⟨fun i H=>∃xs x,SqL K H a xs∧xs[i]? = some x,fun i H x H'=>H'=H∧∀xs,SqL K H a xs→xs[i]? = some x,fun i H=>∃xs,SqL K H a xs∧xs.length≤i⟩
noncomputable def Itt (K:PySem.W.Frag) (a:Addr):It :=
 ⟨fun i H=>∃xs x,SqT K H a xs∧xs[i]? = some x,fun i H x H'=>H'=H∧∀xs,SqT K H a xs→xs[i]? = some x,fun i H=>∃xs,SqT K H a xs∧xs.length≤i⟩
noncomputable def Itr (lo:Int) (n:Nat):It:=⟨fun i _=>i<n,fun i H x H'=>H'=H∧x=.int (lo+i),fun i _=>n≤i⟩
theorem vh {P:Program} {w:World} {K:PySem.W.Frag} {tg:Expr} (a it:Addr):Turn P w K tg (Itl K a) [it] it (fun i h=>h.IsListIter it a i) where
 mem:=by simp
 obj:=fun i h st b hb=>by
  have e:b=it:=by simpa using hb
  subst e
  obtain⟨o,e,c,d⟩:=st
  exact⟨o,e,fun v z=>by rw[d]at z;cases z⟩
 keep:=fun i h h' st k=>st.at fun o e=>k it (by simp) o e
 item:=by
  intro X hP hw hK hc i pins s σ H E I hf st hg
  subst hP hw hK
  obtain⟨xs,x,hq,hx⟩:=hg
  obtain⟨its,rv,p,hz⟩:=I.list hq
  obtain⟨u,hu,ru⟩:=rv.get hx
  obtain⟨f0,f1,f2,f3,f4,f5⟩:=hf it (by simp)
  refine wpAny_pyNext_list_item st p.isList (x:=u) (by simpa using hu) fun h' st' sb=>?_
  have I1:Inv X pins σ H {s with heap:=h'}:=I.turned (t':=s.toks) (fun b o hb e=>(sb.2 b hb).trans e) f0 f1 f3 f4 f5
  obtain⟨o,e,c,d⟩:=id st'
  exact⟨u,rfl,B6 (s:={s with heap:=h'}) e c d (by decide) ⟨x,H,I1,ru,⟨rfl,fun ys hy=>by rw[I.list_inj hy hq];exact hx⟩,st',fun b hb=>(hf b hb).1⟩⟩
 done:=by
  intro X hP hw hK hc i pins s σ H E I hf st hg
  subst hP hw hK
  obtain⟨xs,hq,hx⟩:=hg
  obtain⟨its,rv,p,hz⟩:=I.list hq
  obtain⟨f0,f1,f2,f3,f4,f5⟩:=hf it (by simp)
  have hl:=rv.length
  exact wpAny_pyNext_list_end (I.ok.hd hc) st p.isList (by simp;lia) fun h' eb=>⟨rfl,I.turned (t':=s.toks) (fun b o hb e=>eb b o hb e) f0 f1 f3 f4 f5⟩
 self:=fun _ _ _ _ _ st h=>wpAny_pyIter_listiter st h
theorem tf {P:Program} {w:World} {K:PySem.W.Frag} {tg:Expr} (a it:Addr):Turn P w K tg (Itt K a) [it] it (fun i h=>h.IsTupleIter it a i) where
 mem:=by simp
 obj:=fun i h st b hb=>by
  have e:b=it:=by simpa using hb
  subst e
  obtain⟨o,e,c,d⟩:=st
  exact⟨o,e,fun v z=>by rw[d]at z;cases z⟩
 keep:=fun i h h' st k=>st.at fun o e=>k it (by simp) o e
 item:=by
  intro X hP hw hK hc i pins s σ H E I hf st hg
  subst hP hw hK
  obtain⟨xs,x,hq,hx⟩:=hg
  obtain⟨its,rv,p,hz⟩:=I.tuple hq
  obtain⟨u,hu,ru⟩:=rv.get hx
  obtain⟨f0,f1,f2,f3,f4,f5⟩:=hf it (by simp)
  refine wpAny_pyNext_tuple_item st (show s.heap.IsTuple a its.toArray from p) (x:=u) (by simpa using hu) fun h' st' sb=>?_
  have I1:Inv X pins σ H {s with heap:=h'}:=I.turned (t':=s.toks) (fun b o hb e=>(sb.2 b hb).trans e) f0 f1 f3 f4 f5
  obtain⟨o,e,c,d⟩:=id st'
  exact⟨u,rfl,B6 (s:={s with heap:=h'}) e c d (by decide) ⟨x,H,I1,ru,⟨rfl,fun ys hy=>by rw[I.tuple_inj hy hq];exact hx⟩,st',fun b hb=>(hf b hb).1⟩⟩
 done:=by
  intro X hP hw hK hc i pins s σ H E I hf st hg
  subst hP hw hK
  obtain⟨xs,hq,hx⟩:=hg
  obtain⟨its,rv,p,hz⟩:=I.tuple hq
  obtain⟨f0,f1,f2,f3,f4,f5⟩:=hf it (by simp)
  have hl:=rv.length
  exact wpAny_pyNext_tuple_end (I.ok.hd hc) st (show s.heap.IsTuple a its.toArray from p) (by simp;lia) fun h' eb=>⟨rfl,I.turned (t':=s.toks) (fun b o hb e=>eb b o hb e) f0 f1 f3 f4 f5⟩
 self:=fun _ _ _ _ _ st h=>wpAny_pyIter_tupleiter st h
theorem ti {P:Program} {w:World} {K:PySem.W.Frag} {tg:Expr} (it:Addr) (lo:Int) (n:Nat):Turn P w K tg (Itr lo n) [it] it (fun i h=>IsRangeIter h it (lo+(i:Nat)*1) ((n:Int)-(i:Nat)) 1) where
 mem:=by simp
 obj:=fun i h st b hb=>by
  have e:b=it:=by simpa using hb
  subst e
  exact⟨_,st,fun v z=>by
   have z':Data.fields _=Data.cell v:=z
   cases z'⟩
 keep:=fun i h h' st k=>k it (by simp) _ st
 item:=by
  intro X hP hw hK hc i pins s σ H E I hf st hg
  subst hP hw hK
  obtain⟨f0,f1,f2,f3,f4,f5⟩:=hf it (by simp)
  have W:=Walks.range (prog:=X.prog) (w:=X.w) (I.ok.hd hc) it lo 1 n
  refine W.item i s _ _ hg st fun v h' tk hv st' kk=>?_
  obtain⟨t,rfl⟩:=hv
  have I1:Inv X pins σ H {s with heap:=h',toks:=tk}:=I.turned (fun b o hb e=>kk b o (by simpa using hb) e) f0 f1 f3 f4 f5
  refine⟨_,rfl,B6 (s:={s with heap:=h',toks:=tk}) (n:="range_iterator") st' rfl rfl (by decide) ⟨.int (lo+i),H,I1,⟨t,?_⟩,⟨rfl,rfl⟩,st',fun b hb=>(hf b hb).1⟩⟩
  rw[Int.mul_one]
 done:=by
  intro X hP hw hK hc i pins s σ H E I hf st hg
  subst hP hw hK
  obtain⟨f0,f1,f2,f3,f4,f5⟩:=hf it (by simp)
  exact wpAny_pyNext_range_end (I.ok.hd hc) st (by have:n≤i:=hg;lia) fun h' eb=>⟨rfl,I.turned (t':=s.toks) (fun b o hb e=>eb b o hb e) f0 f1 f3 f4 f5⟩
 self:=fun _ _ _ _ _ st h=>wpAny_pyIter_rangeiter st h
end L2
namespace L2
open PySem PySem.Spec PyProof.Rows
section
variable {X : Cx} {tg : Expr}
theorem zl {pins:List (Addr×Obj)} {σ:St} {H:Hp} {s:Shared} {R:It→Hp→Prop} {E:Value→Shared→Prop} {lo hi:Int} {t u v:Tok} {tk:Nat} (I:Inv X pins σ H s) (h1:-(2 ^ 62)≤lo) (h2:lo<2 ^ 62) (h3:-(2 ^ 62)≤hi) (h4:hi<2 ^ 62)
  (q:R (Itr lo (hi-lo).toNat) H):wpAny (model X.prog X.w) X.A (pyIter (.ref s.heap.objs.size)) (PIE X pins σ tg R) E {s with heap:=s.heap.push {cls:=.type "range",data:=.fields #[.int lo t,.int hi u,.int 1 v]},toks:=tk}:=by
 refine wpAny_pyIter_range (IsRange.new ..) (small_one h1 h2 h3 h4) ?_
 have I1:Inv X pins σ H {s with heap:=s.heap.push {cls:=.type "range",data:=.fields #[.int lo t,.int hi u,.int 1 v]},toks:=tk}:=I.kept fun b o e=>AB _ e
 refine⟨(s.heap.push {cls:=.type "range",data:=.fields #[.int lo t,.int hi u,.int 1 v]}).objs.size,[(s.heap.push {cls:=.type "range",data:=.fields #[.int lo t,.int hi u,.int 1 v]}).objs.size],_,_,H,rfl,
  I1.kept (t':=tk) fun b o e=>AB _ e,ti _ lo (hi-lo).toNat,?_,fun b hb=>?_,q⟩
 ·have e1:lo+((0:Nat):Int)*1=lo:=by simp
  have e2:(((hi-lo).toNat:Nat):Int)-((0:Nat):Int)=Builtin.Range.rangeSize lo hi 1:=by rw[rangeSize_one];split<;>lia
  show IsRangeIter _ _ (lo+((0:Nat):Int)*1) ((((hi-lo).toNat:Nat):Int)-((0:Nat):Int)) 1
  rw[e1,e2]
  exact AG _ rfl
 ·have e:b=(s.heap.push {cls:=.type "range",data:=.fields #[.int lo t,.int hi u,.int 1 v]}).objs.size:=by simpa using hb
  subst e
  exact I1.fpOk (AL _) (I1.hok.fresh (AL _))
noncomputable def Hs (ta:TA):TI:=fun σ H R=>ta σ H fun vs H1=>∃j:Int,vs=[.int j] ∧ -(2 ^ 62)≤j∧j<2 ^ 62∧R (Itr 0 j.toNat) H1
theorem vi {a:Expr} {ta:TA} {p pos:Pos} (hg:Gl X "range") (hm:X.mg "range"=none) (ha:PA X [a] ta) (hs:starEach [a] X.env=[(false,eval a X.env)]:=by rfl):PI X tg (.Call (.Name "range" p) [a] [] pos) (Hs ta):=by
 intro pins s σ H R I h
 refine Call_ (i5 I hg hm boot_range (CO (thn (ha pos pins s σ H _ I h) fun us s1 ⟨vs,H1,I1,r1,q1⟩=>?_) hs rfl))
 obtain⟨j,e,q1,q2,q⟩:=q1
 subst e
 cases r1 with
 | cons r rr =>
  cases rr
  obtain⟨t,rfl⟩:=r
  exact call_range_1 (zl I1 (by lia) (by lia) q1 q2 (by simpa using q))
noncomputable def M5 (wi:TI) (g:TG) (tb:TS):TS:=fun D σ H=>wi σ H fun J H1=>∃W:Nat→Nat→St→Hp→Prop,(∃m,W 0 m σ H1)∧∀i m σ H,W i m σ H →
 (J.stop i H∧D.nx σ H)∨(J.go i H∧∃N:St→Hp→Prop,(∀σ' H',N σ' H'→∃m',m'<m∧W (i+1) m' σ' H')∧∀x H',J.yld i H x H'→g x σ H' fun σ2 H2=>tb {D with nx:=N,ct:=N,bk:=D.nx} σ2 H2)
noncomputable def nc (fp:List Addr) (h:Heap):List (Addr×Obj):=fp.filterMap fun b=>(h.get? b).map fun o=>(b,o)
theorem fv {fp:List Addr} {h:Heap} {b:Addr} {o:Obj} (hb:b∈fp) (e:h.get? b=some o):(b,o)∈nc fp h:=List.mem_filterMap.mpr ⟨b,hb,by rw[e];rfl⟩
theorem vj {fp:List Addr} {h:Heap} {p:Addr×Obj} (hp:p∈nc fp h):p.1∈fp∧h.get? p.1=some p.2:=by
 obtain⟨b,hb,e⟩:=List.mem_filterMap.mp hp
 cases q:h.get? b with
 | none=>rw[q]at e;cases e
 | some o =>
  rw[q]at e
  have e':(b,o)=p:=BF e
  subst e'
  exact⟨hb,q⟩
theorem Inv.pinned {pins:List (Addr×Obj)} {σ:St} {H:Hp} {s:Shared} {fp:List Addr} (I:Inv X pins σ H s) (hf:∀b∈fp,u6 X pins H b) (ho:∀b∈fp,∃o,s.heap.get? b=some o∧∀v,o.data≠.cell v):Inv X (pins++nc fp s.heap) σ H s :=
 I.pins_of fun p hp=>(Ev.mp hp).elim (fun z=>I.pin p (BI _ z)) fun z=>by
  obtain⟨hb,e⟩:=vj z
  obtain⟨f0,f1,f2,_⟩:=hf p.1 hb
  obtain⟨o,e',d⟩:=ho p.1 hb
  rw[e]at e';cases e'
  exact⟨e,f0,f1,f2,d⟩
theorem Inv.unpinned {pins pl:List (Addr×Obj)} {σ:St} {H:Hp} {s:Shared} (I:Inv X (pins++pl) σ H s):Inv X pins σ H s:=I.pins_of fun p hp=>I.pin p (BI _ (List.mem_append_left _ hp))
theorem Em {iter:Expr} {body:List Stmt} {wi:TI} {g:TG} {tb:TS} {pos:Pos} (hp:PassesOwn (model X.prog X.w) X.A X.env X.xe) (hc:X.calm=true) (hi:PI X tg iter wi) (hg:PG X tg g) (hb:PSs X body tb)
  (hs:∀x,foldedSetIterable iter X.env x=pure x:=by intro _;rfl):PS X (.For tg iter body [] pos) (M5 wi g tb):=by
 intro pins s σ H D I h
 refine wpAny_For (thn (hi pins s σ H _ I h) fun v s1 h1=>thn h1 fun itv s2 h2=>?_) hs
 obtain⟨it,fp,tn,J,H2,e,I2,T,st2,f2,W,⟨m0,w0⟩,turn⟩:=h2
 subst e
 -- what stays true of the iterator's objects through the loop
 have stat:∀{H':Hp},(∀b∈fp,H' b=none)→∀b∈fp,u6 X pins H' b:=fun hn b hb=>⟨hn b hb,(f2 b hb).2⟩
 refine codeAny_forLoop_any (fun n s'=>∃i σ' H',Inv X pins σ' H' s'∧tn i s'.heap∧(∀b∈fp,H' b=none)∧W i n σ' H') ?_ m0 ⟨0,σ,H2,I2,st2,fun b hb=>(f2 b hb).1,w0⟩
 rintro n s3 ⟨i,σ3,H3,I3,st3,fr3,w3⟩
 rcases turn i n σ3 H3 w3 with⟨stop,qn⟩ | ⟨go,N,hN,step⟩
 ·refine EA hp (thn (T.done X rfl rfl rfl hc i pins s3 σ3 H3 X.xe I3 (stat fr3) st3 stop) fun r s4 ⟨hr,I4⟩=>?_)
  subst hr
  exact wpAny_execs_nil ⟨σ3,H3,I4,qn⟩
 ·refine EA hp (thn (T.item X rfl rfl rfl hc i pins s3 σ3 H3 X.xe I3 (stat fr3) st3 go) fun r s4 ⟨u,hr,h4⟩=>?_)
  subst hr
  refine EA hp (thn h4 fun _ s5 ⟨x,H5,I5,r5,y5,st5,fr5⟩=>?_)
  have I5':=I5.pinned (stat fr5) (T.obj _ _ st5)
  refine EA hp (thn (hg _ s5 σ3 H5 x u _ I5' r5 (step x H5 y5)) fun _ s6 ⟨σ6,H6,I6,q6⟩=>?_)
  refine EA hp (thn (hb _ s6 σ6 H6 _ I6 q6) fun f s7 q7=>?_)
  have again:∀{σ7:St} {H7:Hp},Inv X (pins++nc fp s5.heap) σ7 H7 s7→N σ7 H7→∃m,m<n∧∃i σ' H',Inv X pins σ' H' s7∧tn i s7.heap∧(∀b∈fp,H' b=none)∧W i m σ' H':=fun {σ7 H7} I7 n7=>by
   obtain⟨m',hm,w7⟩:=hN σ7 H7 n7
   refine⟨m',hm,i+1,σ7,H7,I7.unpinned,T.keep _ _ _ st5 fun b hb o e=>(I7.pin (b,o) (BI _ (BI _ (fv hb e)))).1,fun b hb=>?_,w7⟩
   obtain⟨o,e,d⟩:=T.obj _ _ st5 b hb
   exact(I7.pin (b,o) (BI _ (BI _ (fv hb e)))).2.1
  cases f with
  | next=>obtain⟨σ7,H7,I7,n7⟩:=q7;exact again I7 n7
  | cont=>obtain⟨σ7,H7,I7,n7⟩:=q7;exact again I7 n7
  | brk=>obtain⟨σ7,H7,I7,q7⟩:=q7;exact⟨σ7,H7,I7.unpinned,q7⟩
  | ret v=>obtain⟨x7,σ7,H7,I7,r7,q7⟩:=q7;exact⟨x7,σ7,H7,I7.unpinned,r7,q7⟩
end
end L2
namespace L2
open PySem PySem.Spec PyProof.Rows
noncomputable abbrev R2:=V→V→Hp→VK→Prop
noncomputable def OpR (X:Cx) (f:Value→Value→Sem Value) (r:R2):Prop :=
 ∀(pins:List (Addr×Obj)) (s:Shared) (σ:St) (H:Hp) (x y:V) (v u:Value) (Q:VK),Inv X pins σ H s→RelV x v→RelV y u→r x y H Q →
  wpAny (model X.prog X.w) X.A (f v u) (EP X pins σ Q) X.xe s
noncomputable def UnR (X:Cx) (f:Value→Sem Value) (r:V→Hp→VK→Prop):Prop :=
 ∀(pins:List (Addr×Obj)) (s:Shared) (σ:St) (H:Hp) (x:V) (v:Value) (Q:VK),Inv X pins σ H s→RelV x v→r x H Q →
  wpAny (model X.prog X.w) X.A (f v) (EP X pins σ Q) X.xe s
noncomputable def bx (X:Cx) (f:Value) (r:List V→Hp→VK→Prop):Prop :=
 ∀(pins:List (Addr×Obj)) (s:Shared) (σ:St) (H:Hp) (xs:List V) (us:List Value) (Q:VK),Inv X pins σ H s→a9 xs us→r xs H Q →
  wpAny (model X.prog X.w) X.A (call f us) (EP X pins σ Q) X.xe s
noncomputable def M6 (X:Cx) (r:V→Hp→(Bool→Hp→Prop)→Prop):Prop :=
 ∀(pins:List (Addr×Obj)) (s:Shared) (σ:St) (H:Hp) (x:V) (v:Value) (Q:Bool→Hp→Prop),Inv X pins σ H s→RelV x v→r x H Q →
  wpAny (model X.prog X.w) X.A (truthy v) (TP X pins σ Q) X.xe s
noncomputable def tOp (r:R2) (ta tb:TE):TE:=fun σ H Q=>ta σ H fun x H1=>tb σ H1 fun y H2=>r x y H2 Q
noncomputable def tUn (r:V→Hp→VK→Prop) (ta:TE):TE:=fun σ H Q=>ta σ H fun x H1=>r x H1 Q
noncomputable def rI (C:Int→Int→Prop) (g:Int→Int→V):R2:=fun x y H Q=>∃i j,x=.int i∧y=.int j∧C i j∧Q (g i j) H
noncomputable def rI0 (g:Int→Int→V):R2:=fun x y H Q=>∃i j,x=.int i∧y=.int j∧Q (g i j) H
noncomputable def rU (g:Int→V):V→Hp→VK→Prop:=fun x H Q=>∃i,x=.int i∧Q (g i) H
section
variable {X : Cx} {a b c : Expr} {ta tb tc : TE} {pos : Pos}
theorem K0 (ha:PE X a ta) (hb:PE X b tb) {pins:List (Addr×Obj)} {s:Shared} {σ:St} {H:Hp} {R:V→V→Hp→Prop} (I:Inv X pins σ H s)
  (h:ta σ H fun x H1=>tb σ H1 fun y H2=>R x y H2) {Q:Value→Shared→Prop} {f:Value→Value→Sem Value}
  (hf:∀v u s2 x y H2,Inv X pins σ H2 s2→RelV x v→RelV y u→R x y H2→wpAny (model X.prog X.w) X.A (f v u) Q X.xe s2) :
  wpAny (model X.prog X.w) X.A (eval a X.env) (fun v s₁=>wpAny (model X.prog X.w) X.A (eval b X.env) (fun u s₂=>wpAny (model X.prog X.w) X.A (f v u) Q X.xe s₂) X.xe s₁) X.xe s:=by
 refine thn (ha pins s σ H _ I h) fun v s1 ⟨x,H1,I1,r1,q1⟩=>?_
 refine thn (hb pins s1 σ H1 _ I1 q1) fun u s2 ⟨y,H2,I2,r2,q2⟩=>?_
 exact hf v u s2 x y H2 I2 r1 r2 q2
theorem Ht {op:Operator} {r:R2} (ho:OpR X (binaryOp op) r) (ha:PE X a ta) (hb:PE X b tb):PE X (.BinOp a op b pos) (tOp r ta tb):=by
 intro pins s σ H Q I h
 exact wpAny_BinOp (K0 ha hb I h fun v u s2 x y H2 I2 rx ry q=>ho pins s2 σ H2 x y v u Q I2 rx ry q)
theorem Hu {op:UnaryOp} {r:V→Hp→VK→Prop} (ho:UnR X (unaryOp op) r) (ha:PE X a ta):PE X (.UnaryOp op a pos) (tUn r ta):=by
 intro pins s σ H Q I h
 exact UnaryOp_ (thn (ha pins s σ H _ I h) fun v s1 ⟨x,H1,I1,r1,q1⟩=>ho pins s1 σ H1 x v Q I1 r1 q1)
theorem opI {f:Value→Value→Sem Value} {C:Int→Int→Prop} {g:Int→Int→Int}
  (rule:∀(i j:Int) (t u:Tok) (s:Shared) (Q:Value→Shared→Prop) (E:Value→Shared→Prop),C i j→Q (.int (g i j) s.toks) {s with toks:=s.toks+1}→wpAny (model X.prog X.w) X.A (f (.int i t) (.int j u)) Q E s) :
  OpR X f (rI C fun i j=>.int (g i j)):=by
 intro pins s σ H x y v u Q I rx ry h
 obtain⟨i,j,rfl,rfl,hc,q⟩:=h
 obtain⟨t,rfl⟩:=rx
 obtain⟨t',rfl⟩:=ry
 exact rule i j t t' s _ _ hc ⟨.int (g i j),H,I.tok _,⟨_,rfl⟩,q⟩
theorem K1 {f:Value→Value→Sem Value} {g:Int→Int→Int}
  (rule:∀(i j:Int) (t u:Tok) (s:Shared) (Q:Value→Shared→Prop) (E:Value→Shared→Prop),Q (.int (g i j) s.toks) {s with toks:=s.toks+1}→wpAny (model X.prog X.w) X.A (f (.int i t) (.int j u)) Q E s) :
  OpR X f (rI0 fun i j=>.int (g i j)):=by
 intro pins s σ H x y v u Q I rx ry h
 obtain⟨i,j,rfl,rfl,q⟩:=h
 obtain⟨t,rfl⟩:=rx
 obtain⟨t',rfl⟩:=ry
 exact rule i j t t' s _ _ ⟨.int (g i j),H,I.tok _,⟨_,rfl⟩,q⟩
theorem G3 {f:Value→Value→Sem Value} {g:Int→Int→Bool}
  (rule:∀(i j:Int) (t u:Tok) (s:Shared) (Q:Value→Shared→Prop) (E:Value→Shared→Prop),Q (.bool (g i j)) s→wpAny (model X.prog X.w) X.A (f (.int i t) (.int j u)) Q E s) :
  OpR X f (rI0 fun i j=>.bl (g i j)):=by
 intro pins s σ H x y v u Q I rx ry h
 obtain⟨i,j,rfl,rfl,q⟩:=h
 obtain⟨t,rfl⟩:=rx
 obtain⟨t',rfl⟩:=ry
 exact rule i j t t' s _ _ ⟨.bl (g i j),H,I,rfl,q⟩
noncomputable def M7 (i j:Int):Prop:=0<j∧j<1073741824
noncomputable def M8 (i j:Int):Prop:=0≤j∧j≤1000000∧i.natAbs<2 ^ 64
noncomputable def CMul (i j:Int):Prop:=(-(2 ^ 64)<i∧i<2 ^ 64)∨(-(2 ^ 64)<j∧j<2 ^ 64)
theorem CMul.ok {i j:Int} (h:CMul i j):IntMulOk i j:=by
 rcases h with⟨h1,h2⟩ | ⟨h1,h2⟩
 ·exact .of_left (intBits_le_64 h1 h2)
 ·exact .of_right (intBits_le_64 h1 h2)
theorem tj (k:Nat):(0:Int)≤2 ^ k:=by
 rw[two_pow_cast]
 exact Int.natCast_nonneg _
theorem op_add:OpR X (binaryOp .Add) (rI0 fun i j=>.int (i+j)):=K1 fun _ _ _ _ _ _ _ q=>add_int q
theorem op_sub:OpR X (binaryOp .Sub) (rI0 fun i j=>.int (i-j)):=K1 fun _ _ _ _ _ _ _ q=>sub_int q
theorem op_mul:OpR X (binaryOp .Mult) (rI CMul fun i j=>.int (i*j)):=opI fun _ _ _ _ _ _ _ hc q=>mul_int q hc.ok
theorem B7:OpR X (binaryOp .FloorDiv) (rI M7 fun i j=>.int (i / j)):=opI fun i j _ _ _ _ _ hc q=>by
 have h1:(0:Int)<j:=hc.1
 have h2:j<1073741824:=hc.2
 exact floordiv_int (by lia) (by rw[FG i (by lia)];exact q) (.inl (PyProof.noPylong_small (by lia)))
theorem op_mod:OpR X (binaryOp .Mod) (rI (fun _ j=>0<j) fun i j=>.int (i % j)):=opI fun i j _ _ _ _ _ hc q=>by
 have h1:(0:Int)<j:=hc
 exact mod_int' (by lia) (by rw[Int.fmod_eq_emod_of_nonneg i (by lia)];exact q)
theorem op_pow:OpR X (binaryOp .Pow) (rI M8 fun i j=>.int (i ^ j.toNat)):=opI fun _ _ _ _ _ _ _ hc q=>pow_int_small hc.1 hc.2.1 hc.2.2 q
theorem op_shr:OpR X (binaryOp .RShift) (rI (fun _ j=>0≤j) fun i j=>.int (i / 2 ^ j.toNat)):=opI fun i j _ _ _ _ _ hc q =>
 rshift_int hc (by rw[FG i (tj _)];exact q)
theorem unI {f:Value→Sem Value} {g:Int→Int}
  (rule:∀(i:Int) (t:Tok) (s:Shared) (Q:Value→Shared→Prop) (E:Value→Shared→Prop),Q (.int (g i) s.toks) {s with toks:=s.toks+1}→wpAny (model X.prog X.w) X.A (f (.int i t)) Q E s) :
  UnR X f (rU fun i=>.int (g i)):=by
 intro pins s σ H x v Q I rx h
 obtain⟨i,rfl,q⟩:=h
 obtain⟨t,rfl⟩:=rx
 exact rule i t s _ _ ⟨.int (g i),H,I.tok _,⟨_,rfl⟩,q⟩
theorem En:UnR X (unaryOp .USub) (rU fun i=>.int (-i)):=unI fun _ _ _ _ _ q=>neg_int q
end
section
variable {X : Cx} {a b c : Expr} {ta tb tc : TE} {pos : Pos}
theorem A6 {pins:List (Addr×Obj)} {σ:St} {H:Hp} {s:Shared} {Q:VK} {k k':Bool} (I:Inv X pins σ H s) (q:Q (.bl k) H) (e:k=k'):EP X pins σ Q (.bool k') s:=by
 subst e
 exact⟨.bl k,H,I,rfl,q⟩
theorem Hv:OpR X (compareOp .Lt) (rI0 fun i j=>.bl (decide (i<j))):=G3 fun _ _ _ _ _ _ _ q=>lt_int q
theorem Hw:OpR X (compareOp .LtE) (rI0 fun i j=>.bl (decide (i≤j))):=G3 fun _ _ _ _ _ _ _ q=>le_int q
theorem Hx:OpR X (compareOp .Gt) (rI0 fun i j=>.bl (decide (j<i))):=G3 fun _ _ _ _ _ _ _ q=>gt_int q
theorem Hy:OpR X (compareOp .GtE) (rI0 fun i j=>.bl (decide (j≤i))):=G3 fun _ _ _ _ _ _ _ q=>ge_int q
theorem Eo:OpR X (compareOp .Is) (fun x y H Q=>y=.non∧Q (.bl (decide (x=.non))) H):=by
 intro pins s σ H x y v u Q I rx ry h
 obtain⟨rfl,q⟩:=h
 cases ry
 refine is_none_gen (A6 I q ?_)
 cases x<;>first
  | (cases rx;rfl)
  | (obtain⟨t,rfl⟩:=rx;rfl)
theorem B8:OpR X (compareOp .IsNot) (fun x y H Q=>y=.non∧Q (.bl (!decide (x=.non))) H):=by
 intro pins s σ H x y v u Q I rx ry h
 obtain⟨rfl,q⟩:=h
 cases ry
 refine isnot_none_gen (A6 I q ?_)
 cases x<;>first
  | (cases rx;rfl)
  | (obtain⟨t,rfl⟩:=rx;rfl)
noncomputable def K2 (K:PySem.W.Frag) (x:V) (H:Hp) (k:Bool):Prop :=
 match x with
 | .non=>k=false
 | .bl b=>k=b
 | .int i=>k=(i != 0)
 | .str y=>y.length≤sizeLine∧k=((y.length:Int) != 0)
 | .byt y=>y.size≤sizeLine∧k=((y.size:Int) != 0)
 | .ref p=>(∃xs,SqL K H p xs∧k=!xs.isEmpty)∨(∃xs,SqT K H p xs∧k=!xs.isEmpty)∨∃kvs,H p=some (.dK kvs)∧k=!kvs.isEmpty
 | _=>False
theorem tm {κ:Type} {kvs:List (κ×V)} {vs:List (κ×Value)} (r:KV kvs vs):(!vs.isEmpty)=!kvs.isEmpty:=by
 cases r<;>rfl
theorem kc {xs:List V} {its:List Value} (r:a9 xs its):(!its.toArray.isEmpty)=!xs.isEmpty:=by
 cases r<;>simp
theorem ng:(sizeLine:Nat)<2 ^ 63:=by rw[EE];decide
theorem Ep:M6 X (fun x H Q=>∃k,K2 X.K x H k∧Q k H):=by
 intro pins s σ H x v Q I rx h
 obtain⟨k,e,q⟩:=h
 have hl:=ng
 have hs:sizeLine=16777216:=EE
 cases x with
 | non =>
  cases rx
  have e':k=false:=e
  subst e'
  exact truthy_none ⟨H,I,q⟩
 | bl b =>
  cases rx
  have e':k=b:=e
  subst e'
  exact CW ⟨H,I,q⟩
 | int i =>
  obtain⟨t,rfl⟩:=rx
  have e':k=(i != 0):=e
  subst e'
  exact PySem.P.truthy_int ⟨H,I,q⟩
 | str y =>
  obtain⟨t,rfl⟩:=rx
  obtain⟨hy,e'⟩:y.length≤sizeLine∧k=((y.length:Int) != 0):=e
  subst e'
  exact PySem.P.truthy_str (by lia) ⟨H,I.tok _,q⟩
 | byt y =>
  obtain⟨t,rfl⟩:=rx
  obtain⟨hy,e'⟩:y.size≤sizeLine∧k=((y.size:Int) != 0):=e
  subst e'
  exact PySem.W.truthy_bytes (by lia) ⟨H,I.tok _,q⟩
 | ref p =>
  cases rx
  have e':(∃xs,SqL X.K H p xs∧k=!xs.isEmpty)∨(∃xs,SqT X.K H p xs∧k=!xs.isEmpty)∨∃kvs,H p=some (.dK kvs)∧k=!kvs.isEmpty:=e
  rcases e' with⟨xs,hx,e'⟩ | ⟨xs,hx,e'⟩ | ⟨kvs,hx,e'⟩
  ·subst e'
   obtain⟨its,r,pl,hz⟩:=I.list hx
   have hlen:=r.length
   exact wpAny_truthy_list pl.isList (by simp only[AE];lia) ⟨H,I.tok _,by rw[kc r];exact q⟩
  ·subst e'
   obtain⟨its,r,pl,hz⟩:=I.tuple hx
   have hlen:=r.length
   exact truthy_tuple pl (by simp only[AE];lia) ⟨H,I.tok _,by rw[kc r];exact q⟩
  ·subst e'
   obtain⟨hz,hS,vs,r,m⟩:kvs.length≤sizeLine∧(p==sysModules)=false∧∃vs,KV kvs vs∧s.heap.DictOf (bz X.prog X.w) p vs:=I.hok p _ hx
   have hlen:kvs.length=vs.length:=DL r
   exact wpAny_truthy_dict hS m (by lia) ⟨H,I.tok _,by rw[tm r];exact q⟩
 | _=>exact(show False from e).elim
theorem zm (ha:PE X a ta) (he:∀whole,isTrue a X.env whole=(do let v ←whole;standAt a.pos;holding [v] (truthy v))) :
  PT X a (fun σ H Q=>ta σ H fun x H'=>∃k,K2 X.K x H' k∧Q k H'):=by
 intro pins s σ H Q I h
 exact isTrue_plain (thn (ha pins s σ H _ I h) fun v s1 ⟨x,H1,I1,r1,q1⟩=>Ep pins s1 σ H1 x v Q I1 r1 q1) (he _)
theorem vals1 {x:V} {us:List Value} (r:a9 [x] us):∃u,us=[u]∧RelV x u:=by
 cases r with
 | cons r1 r2=>cases r2;exact⟨_,rfl,r1⟩
theorem vals2 {x y:V} {us:List Value} (r:a9 [x,y] us):∃u w',us=[u,w']∧RelV x u∧RelV y w':=by
 cases r with
 | cons r1 r2 =>
  cases r2 with
  | cons r3 r4=>cases r4;exact⟨_,_,rfl,r1,r3⟩
theorem vk (hc:X.calm=true):bx X (.builtin "max") (fun xs H Q=>∃i j,xs=[.int i,.int j]∧Q (.int (if j > i then j else i)) H):=by
 intro pins s σ H xs us Q I r h
 obtain⟨i,j,rfl,q⟩:=h
 obtain⟨u,w',rfl,⟨t,rfl⟩,⟨t',rfl⟩⟩:=vals2 r
 refine max_two_ints (I.ok.hd hc) fun h' tk k=>⟨_,H,I.kept k,?_,q⟩
 by_cases hj:j > i
 ·rw[if_pos hj,if_pos hj];exact⟨_,rfl⟩
 ·rw[if_neg hj,if_neg hj];exact⟨_,rfl⟩
theorem vm (hc:X.calm=true):bx X (.builtin "min") (fun xs H Q=>∃i j,xs=[.int i,.int j]∧Q (.int (if j<i then j else i)) H):=by
 intro pins s σ H xs us Q I r h
 obtain⟨i,j,rfl,q⟩:=h
 obtain⟨u,w',rfl,⟨t,rfl⟩,⟨t',rfl⟩⟩:=vals2 r
 refine min_two_ints (I.ok.hd hc) fun h' tk k=>⟨_,H,I.kept k,?_,q⟩
 by_cases hj:j<i
 ·rw[if_pos hj,if_pos hj];exact⟨_,rfl⟩
 ·rw[if_neg hj,if_neg hj];exact⟨_,rfl⟩
end
end L2
namespace L2
open PySem PySem.Spec PyProof.Rows
structure Room (k:Nat) (A:Around):Prop where
 hd:A.handled=none
 dp:A.depth+3*k+5<recursionLimit
 un:A.units+16*k+200<cLine
theorem Room.deeper {k:Nat} {A:Around} (r:Room (k+1) A) (env:Env):Room k (A.deeper env) :=
 ⟨r.hd,by have:=r.dp;show A.depth+1+3*k+5<_;lia,by have:=r.un;show A.units+3+16*k+200<_;lia⟩
theorem Room.depth {k:Nat} {A:Around} (r:Room k A):A.depth<recursionLimit:=by have:=r.dp;lia
theorem Room.units {k:Nat} {A:Around} (r:Room k A):A.units+64<cLine:=by have:=r.un;lia
noncomputable def tNil:TA:=fun _ H Q=>Q [] H
noncomputable def Hz (ta:TE) (tr:TA):TA:=fun σ H Q=>ta σ H fun x H1=>tr σ H1 fun xs H2=>Q (x::xs) H2
section
variable {X : Cx} {e : Expr} {es : List Expr} {te : TE} {t : TA} {pos : Pos}
theorem A7:PA X [] tNil:=fun _ _ _ _ H Q I h=>FO ⟨[],H,I,.nil,h⟩
theorem p6 (ha:PE X e te) (hr:PA X es t) (hs:starEach (e::es) X.env=(false,eval e X.env)::starEach es X.env:=by rfl):PA X (e::es) (Hz te t):=by
 intro pos pins s σ H Q I h
 rw[hs]
 show wpAny _ _ (spliced ((false,eval e X.env)::backTo pos (starEach es X.env))) _ _ s
 refine FH (thn (ha pins s σ H _ I h) fun u s1 ⟨x,H1,I1,r1,q1⟩=>?_)
 exact thn (hr pos pins s1 σ H1 _ I1 q1) fun us s2 ⟨xs,H2,I2,r2,q2⟩=>⟨x::xs,H2,I2,.cons r1 r2,q2⟩
noncomputable def M9 (t:TA):TE:=fun σ H Q=>t σ H fun xs H1=>xs.length≤sizeLine∧∀p,H1 p=none→Q (.ref p) (upd H1 p (.tup xs))
noncomputable def Na (t:TA):TE:=fun σ H Q=>t σ H fun xs H1=>xs.length≤sizeLine∧∀p,H1 p=none→Q (.ref p) (upd H1 p (.lst xs))
theorem Er {x1} (h:PA X es t):PE X (.Tuple es x1 pos) (M9 t):=by
 intro pins s σ H Q I hq
 refine wpAny_Tuple_spliced (thn (h pos pins s σ H _ I hq) fun us s1 ⟨xs,H1,I1,r,z,q⟩=>⟨by rw[←r.length];exact z,?_⟩)
 have hf:H1 s1.heap.objs.size=none:=I1.hok.fresh (AL _)
 refine⟨.ref s1.heap.objs.size,upd H1 s1.heap.objs.size (.tup xs),I1.laid (t':=s1.toks) (fun b u e=>AB _ e) (AL _) ?_,rfl,q _ hf⟩
 exact⟨z,us,r,⟨_,AG _ rfl,rfl,rfl,_,rfl⟩⟩
theorem Es (h:PA X es t):PE X (.List es pos) (Na t):=by
 intro pins s σ H Q I hq
 refine wpAny_List_spliced (thn (h pos pins s σ H _ I hq) fun us s1 ⟨xs,H1,I1,r,z,q⟩=>⟨by rw[←r.length];exact z,?_⟩)
 have hf:H1 s1.heap.objs.size=none:=I1.hok.fresh (AL _)
 refine⟨.ref s1.heap.objs.size,upd H1 s1.heap.objs.size (.lst xs),I1.laid (t':=s1.toks) (fun b u e=>AB _ e) (AL _) ?_,rfl,q _ hf⟩
 exact⟨z,us,0,r,AG _ rfl⟩
end
noncomputable abbrev Sp:=List V→Hp→VK→XK→Prop
noncomputable abbrev CXT:=List Env→Hp→Shared→XK→Value→Shared→Prop
structure Env0 (P:Program) (w:World) (K:PySem.W.Frag) (mg:Str→Option Value) (base:Heap) (A:Around) (outer:List Env) (s:Shared) (H:Hp):Prop where
 frames:A.frames=some outer
 mod:Mod K mg base
 bs:∀b o,base.get? b=some o→s.heap.get? b=some o∧H b=none
 bsz:base.objs.size≤s.heap.objs.size
 funs:s.heap.FunFrames base outer
 frf:∀b∈frs outer,H b=none
 hok:HOk P w H s.heap
 bare:AllBare s.gens
noncomputable def CE (outer:List Env) (P:Program) (w:World) (H:Hp) (s:Shared) (Q:VK) (u:Value) (s':Shared):Prop :=
 ∃v H',s'.os=s.os∧AllBare s'.gens∧Un (frs outer) [] H H' s.heap s'.heap∧HOk P w H' s'.heap∧RelV v u∧Q v H'
noncomputable def CR (CX:CXT) (outer:List Env) (P:Program) (w:World) (H:Hp) (s:Shared) (Q:VK) (E:XK) (r:Result) (s':Shared):Prop :=
 match r with
 | .ok (.ret u)=>CE outer P w H s Q u s'
 | .ok _=>False
 | .error e=>CX outer H s E e s'
structure FnOk (P:Program) (w:World) (K:PySem.W.Frag) (mg:Str→Option Value) (base:Heap) (CX:CXT) (k:Nat) (f:Addr) (fd:FuncData) (ps:List Str) (sp:Sp):Prop where
 len:∀vs H Q E,sp vs H Q E→vs.length=ps.length
 run:∀(A:Around) (outer:List Env) (s:Shared) (H:Hp) (args:Args) (us:List Value) (vs:List V) (Q:VK) (E:XK),Room k A→Env0 P w K mg base A outer s H→BindsTo s fd args (ps.zip us)→a9 vs us→sp vs H Q E →
  codeAny (model P w) A (.call (.ref f) args) (CR CX outer P w H s Q E) s
theorem FnOk.imp {P:Program} {w:World} {K:PySem.W.Frag} {mg:Str→Option Value} {base:Heap} {CX:CXT} {k:Nat} {f:Addr} {fd:FuncData} {ps:List Str} {sp sp':Sp} (F:FnOk P w K mg base CX k f fd ps sp)
  (h:∀vs H Q E,sp' vs H Q E→sp vs H Q E):FnOk P w K mg base CX k f fd ps sp' :=
 ⟨fun vs H Q E q=>F.len vs H Q E (h _ _ _ _ q),fun A outer s H args us vs Q E hr he hb hv hs=>F.run A outer s H args us vs Q E hr he hb hv (h _ _ _ _ hs)⟩
section
variable {X : Cx} {pins : List (Addr × Obj)} {σ : St} {H : Hp} {s s' : Shared}
theorem Inv.env0 (I:Inv X pins σ H s):Env0 X.prog X.w X.K X.mg X.base X.A X.stack s H :=
 ⟨I.ok.frames,I.ok.mod,I.bs,BV I.ok.bsz I.sz,I.stack,I.stkFree,I.hok,I.bare⟩
theorem Inv.after {Q:VK} {u:Value} (I:Inv X pins σ H s) (h:CE X.stack X.prog X.w H s Q u s'):EP X pins σ Q u s':=by
 obtain⟨v,H',os,bare,un,hok,r,q⟩:=h
 obtain⟨hh,g,d,t,os'⟩:=s'
 obtain rfl:os'=s.os:=os
 exact⟨v,H',I.call (h':=hh) (g':=g) (d':=d) (t':=t) (ch:=[]) un hok bare (fun b z=>absurd z (by simp)),r,q⟩
end
noncomputable def Ia (sp:Sp) (dvs:List V) (E:XK) (t:TA):TE:=fun σ H Q=>t σ H fun vs H1=>sp (vs++dvs) H1 Q E
noncomputable def Binds (K:PySem.W.Frag) (fd:FuncData) (ps:List Str) (ds:List Value):Prop :=
 ∀(s:Shared) (us:List Value),K.In s.heap→(us++ds).length=ps.length→BindsTo s fd ⟨us,[]⟩ (ps.zip (us++ds))
theorem Binds.all {K:PySem.W.Frag} {fd:FuncData} {ps:List Str} (h:∀us:List Value,us.length=ps.length→bindArgs fd ⟨us,[]⟩=pure (ps.zip us)):Binds K fd ps []:=fun s us _ hl=>by
 rw[List.append_nil]at hl ⊢
 exact .of_eq (h us hl)
noncomputable def vn (CX:CXT) (X:Cx) (E:XK):Prop:=∀(pins:List (Addr×Obj)) (σ:St) (H:Hp) (s:Shared) (e:Value) (s':Shared),Inv X pins σ H s→CX X.stack H s E e s'→X.xe e s'
section
variable {X : Cx} {CX : CXT} {k : Nat} {f C : Addr} {fd : FuncData} {ps : List Str} {sp : Sp} {dvs : List V} {ds : List Value} {E : XK} {x m : Str} {p pos apos : Pos} {e o : Expr} {es : List Expr} {ta : TE} {t : TA}
theorem Et {pins:List (Addr×Obj)} {σ:St} {H:Hp} {s:Shared} {Q:VK} {us:List Value} {vs:List V} (F:FnOk X.prog X.w X.K X.mg X.base CX k f fd ps sp) (hr:Room k X.A) (hb:Binds X.K fd ps ds) (hd:a9 dvs ds) (hx:vn CX X E)
  (I:Inv X pins σ H s) (r:a9 vs us) (h:sp (vs++dvs) H Q E):wpAny (model X.prog X.w) X.A (call (.ref f) us) (EP X pins σ Q) X.xe s:=by
 have r2:a9 (vs++dvs) (us++ds):=r.append hd
 have hl:(us++ds).length=ps.length:=by rw[←r2.length];exact F.len _ _ _ _ h
 refine wpAny_call (DE (F.run X.A X.stack s H ⟨us,[]⟩ (us++ds) (vs++dvs) Q E hr I.env0 (hb s us I.kIn hl) r2 h) fun r s' hq=>?_)
 cases r with
 | error e=>exact hx pins σ H s e s' I hq
 | ok fl =>
  cases fl with
  | ret u=>exact I.after hq
  | next=>exact False.elim hq
  | brk=>exact False.elim hq
  | cont=>exact False.elim hq
theorem B9 (F:FnOk X.prog X.w X.K X.mg X.base CX k f fd ps sp) (hr:Room k X.A) (hg:Gl X x) (hm:X.mg x=some (.ref f)) (hk:PySem.W.keepIn X.K (.ref f)=true) (hb:Binds X.K fd ps ds) (hd:a9 dvs ds) (hx:vn CX X E)
  (ha:PA X (e::es) t) (hdb:(x==("__debug__":Str))=false:=by decide) (he:starEach (e::es) X.env=(false,eval e X.env)::starEach es X.env:=by rfl) (hpl:(backTo pos (starEach es X.env)).any (·.1)=false:=by rfl) :
  PE X (.Call (.Name x p) (e::es) [] pos) (Ia sp dvs E t):=by
 intro pins s σ H Q I h
 refine DF (Bx I hg hm ?_ hdb)
 refine PySem.W.callWith_K (h₀:=X.base) I.ok.mod.kin hk (thn (ha pos pins s σ H _ I h) fun us s1 ⟨vs,H1,I1,r,q⟩=>⟨I1.kIn,?_⟩) he hpl
 exact Et F hr hb hd hx I1 r q
structure Mk (K:PySem.W.Frag) (C f:Addr):Prop where
 makes:PySem.W.makesIn K C=true
 init:PySem.W.findIn K (.ref C) "__init__"=some (some (.ref f))
 fn:PySem.W.isFn K (.ref f)=true
 kp:PySem.W.keepIn K (.ref C)=true
end
structure FnScope (N P:List Str) (sc:Scope):Prop where
 kind:sc.kind=.function
 co:sc.isCoroutine=false
 gen:sc.isGenerator=false
 nd:N.Nodup
 pre:N.take P.length=P
 par:∀x∈P,sc.names.lookup x=some .local∨sc.names.lookup x=some .cell
 nofree:∀y∈sc.names,y.2≠.free
theorem nh {kindOf:Str→Option NameKind} {x:Str}:∀{binds:List (Str×Value)} {m:Str→Option Value},(∀v,(x,v)∉binds)→bindL kindOf binds m x=m x
 | [],_,_=>rfl
 | (n,v)::r,m,h=>by
  unfold bindL
  rw[nh fun w hw=>h w (AN _ hw)]
  split
  ·have:x≠n:=by rintro rfl;exact h v AM
   simp[this]
  ·rfl
theorem ni {kindOf:Str→Option NameKind} {x:Str}:∀{binds:List (Str×Value)} {m:Str→Option Value},(∀v,(x,v)∉binds)→bindC kindOf binds m x=m x
 | [],_,_=>rfl
 | (n,v)::r,m,h=>by
  unfold bindC
  rw[ni fun w hw=>h w (AN _ hw)]
  split
  ·rfl
  ·have:x≠n:=by rintro rfl;exact h v AM
   simp[this]
theorem nj {kindOf:Str→Option NameKind} {x:Str} {v:Value}:∀{P:List Str} {vs:List Value} {i:Nat} {m:Str→Option Value},P.Nodup→P[i]? = some x→vs[i]? = some v→kindOf x=some .local →
  bindL kindOf (P.zip vs) m x=some v
 | [],_,_,_,_,h,_,_=>by simp at h
 | _::_,[],_,_,_,_,h,_=>by simp at h
 | p::P,w::vs,0,m,nd,h1,h2,hk=>by
  simp at h1 h2;subst h1;subst h2
  show bindL kindOf ((p,w)::P.zip vs) m p=_
  unfold bindL
  rw[nh fun v hv=>(EB.mp nd).1 (GN hv).1,if_pos hk]
  simp
 | p::P,w::vs,i+1,m,nd,h1,h2,hk=>by
  show bindL kindOf ((p,w)::P.zip vs) m x=_
  unfold bindL
  exact nj (i:=i) (EB.mp nd).2 (by simpa using h1) (by simpa using h2) hk
theorem nk {kindOf:Str→Option NameKind} {x:Str} {v:Value}:∀{P:List Str} {vs:List Value} {i:Nat} {m:Str→Option Value},P.Nodup→P[i]? = some x→vs[i]? = some v→kindOf x≠some .local →
  bindC kindOf (P.zip vs) m x=some v
 | [],_,_,_,_,h,_,_=>by simp at h
 | _::_,[],_,_,_,_,h,_=>by simp at h
 | p::P,w::vs,0,m,nd,h1,h2,hk=>by
  simp at h1 h2;subst h1;subst h2
  show bindC kindOf ((p,w)::P.zip vs) m p=_
  unfold bindC
  rw[ni fun v hv=>(EB.mp nd).1 (GN hv).1,if_neg hk]
  simp
 | p::P,w::vs,i+1,m,nd,h1,h2,hk=>by
  show bindC kindOf ((p,w)::P.zip vs) m x=_
  unfold bindC
  exact nk (i:=i) (EB.mp nd).2 (by simpa using h1) (by simpa using h2) hk
noncomputable def start (N:List Str) (vs:List V):St:=vs.map some++List.replicate (N.length-vs.length) none
noncomputable def A8 (CX:CXT) (P:Program) (w:World) (K:PySem.W.Frag) (mg:Str→Option Value) (base:Heap) (N:List Str) (qual:Str) (scope:Scope) (f:Addr) (cd:Value) (A:Around) (outer:List Env) (s:Shared) (H:Hp) (E:XK):Cx where
 prog:=P
 w:=w
 K:=K
 mg:=mg
 base:=base
 A:=A.deeper (envOfC qual scope s.heap.objs.size f cd)
 N:=N
 s₀:=s
 H₀:=H
 env:=envOfC qual scope s.heap.objs.size f cd
 outer:=outer
 stack:=envOfC qual scope s.heap.objs.size f cd::outer
 ex:=[]
 calm:=true
 fn:=fun _=>true
 pn:=[]
 xe:=fun e s'=>wpAny (model P w) (A.deeper (envOfC qual scope s.heap.objs.size f cd)) (leaving (envOfC qual scope s.heap.objs.size f cd) e) (fun _ s''=>CX outer H s E e s'') (fun e' s''=>CX outer H s E e' s'') s'
theorem rn {sc:Scope} {n:Nat} {x:Str} (h:sc.names.lookup x=some .cell):∃c,(cellsFrom n sc.names []).lookup x=some c:=by
 have q:=GF sc.names n [] (.inl h)
 exact FV.mp q
theorem vo {CX:CXT} {P:Program} {w:World} {K:PySem.W.Frag} {mg:Str→Option Value} {base:Heap} {N ps:List Str} {qual:Str} {scope:Scope} {f:Addr} {cd:Value} {A:Around} {outer:List Env} {s s1:Shared} {H:Hp} {E:XK} {us:List Value} {vs:List V}
  (S:FnScope N ps scope) (hd:A.handled=none) (e0:Env0 P w K mg base A outer s H) (hl:vs.length=ps.length) (r:a9 vs us)
  (x:InCallC s s.heap.objs.size (bindL (envOfC qual scope s.heap.objs.size f cd).kindOf (ps.zip us) fun _=>none) (cellsFrom (s.heap.objs.size+1) scope.names []) (bindC (envOfC qual scope s.heap.objs.size f cd).kindOf (ps.zip us) fun _=>none) s1) :
  Inv (A8 CX P w K mg base N qual scope f cd A outer s H E) [] (start N vs) H s1:=by
 have hpl:ps.length≤N.length:=by have:=congrArg List.length S.pre;rw[DT]at this;lia
 obtain⟨h1,tk,rfl,hk⟩:=x.done
 have noA:∀b:Addr,b∉(A8 CX P w K mg base N qual scope f cd A outer s H E).ex:=fun b z=>absurd (show b∈([]:List Addr)from z) (by simp)
 refine⟨⟨e0.mod,S.kind,rfl,rfl,AL _,fun y z c h1 h2=>?_,fun y hy=>?_,fun y c _ h=>?_,fun _=>hd,Around.frames_deeper e0.frames,.inr ⟨rfl,rfl⟩,fun b z=>absurd z (noA b),e0.bs,e0.bsz,fun b _ _=>noA b,fun b z=>absurd z (noA b),e0.funs,e0.frf⟩,
  rfl,e0.bare,Un.kept hk,⟨_,x.toInCall.ns,fun i y v h1 h2 h3=>?_⟩,fun y c h=>⟨_,x.cell y c h⟩,e0.hok.fresh (AL _),fun y c h=>?_,fun p hp=>absurd (show p∈([]:List (Addr×Obj))from hp) (by simp),e0.hok.kept hk,?_⟩
 ·exact name_of_addr x.apart (Db h1) (Db h2)
 ·have hy:scope.names.lookup y=some .cell∨scope.names.lookup y=some .free:=hy
  rcases hy with hy | hy
  ·exact rn hy
  ·exact absurd rfl (S.nofree _ (Db hy))
 ·exact DD (x.above y c (Db h))
 ·have hi:i<vs.length:=by
   unfold start at h2
   by_cases hi:i<vs.length
   ·exact hi
   ·rw[CB (by simpa using hi)]at h2
    rw[CK]at h2
    split at h2<;>cases h2
  have ha:vs[i]? = some v:=by
   unfold start at h2
   rw[AR (by simpa using hi),BN]at h2
   cases e:vs[i]? with
   | none=>rw[e]at h2;cases h2
   | some a=>rw[e]at h2;cases h2;rfl
  obtain⟨u,hu,rv⟩:=r.get ha
  have hp:ps[i]? = some y:=by
   rw[←S.pre,FW (by lia)];exact h1
  have ndP:ps.Nodup:=by rw[←S.pre];exact S.nd.sublist (List.take_sublist _ _)
  refine⟨u,rv,?_⟩
  rcases S.par y (DS hp)with k | k
  ·exact .inl ⟨k,nj ndP hp hu k⟩
  ·obtain⟨c,e⟩:=rn (n:=s.heap.objs.size+1) k
   refine .inr ⟨.inl k,c,e,?_⟩
   have q:=x.cell y c e
   rw[nk ndP hp hu (by show scope.names.lookup y≠_;rw[k];decide)]at q
   exact q
 ·exact e0.hok.fresh (DD (x.above y c (Db h)))
 ·unfold start
  show _=N.length
  rw[CH,AV,GP]
  lia
theorem Ib {CX:CXT} {P:Program} {w:World} {K:PySem.W.Frag} {mg:Str→Option Value} {base:Heap} {k:Nat} {f:Addr} {name qual:Str} {params:Arguments} {body:List Stmt} {scope:Scope} {dV kV doc pm cdv ct oc:Value} {an od:Option Addr}
  {osl:Array (Option Value)} {N ps:List Str} {sp:Sp} (lk:K.lookup f=some ⟨oc,od,.func (PySem.W.fnOf name qual params body scope dV kV doc pm an cdv ct),osl⟩) (hcd:PySem.W.codeIn K cdv qual=true) (S:FnScope N ps scope)
  (len:∀vs H Q E,sp vs H Q E→vs.length=ps.length)
  (hbody:∀(A:Around) (outer:List Env) (s:Shared) (H:Hp) (vs:List V) (Q:VK) (E:XK),Room k (A.deeper (envOfC qual scope s.heap.objs.size f cdv))→sp vs H Q E →
   ∃t,PSs (A8 CX P w K mg base N qual scope f cdv A outer s H E) body t∧t {nx:=fun _ H'=>Q .non H',rt:=Q} (start N vs) H) :
  FnOk P w K mg base CX (k+1) f (PySem.W.fnOf name qual params body scope dV kV doc pm an cdv ct) ps sp:=by
 refine⟨len,fun A outer s H args us vs Q E hr e0 hb r hsp=>?_⟩
 have hl:=len _ _ _ _ hsp
 have KX:K.In s.heap:=e0.mod.kin.keeps fun b o e=>(e0.bs b o e).1
 have lim:s.heap.NoLimit:=e0.mod.nolimit.keeps fun b o e=>(e0.bs b o e).1
 have hkind:∀y∈ps.zip us,scope.names.lookup y.1=some .local∨(scope.names.lookup y.1=some .cell∧((cellsFrom (s.heap.objs.size+1) scope.names []).lookup y.1).isSome=true):=fun⟨n,v⟩ hy=>by
  rcases S.par n (GN hy).1 with q | q
  ·exact .inl q
  ·exact .inr ⟨q,GF _ _ _ (.inl q)⟩
 refine codeAny_call_function hr.depth (KX _ _ lk) rfl S.co S.gen rfl (PySem.W.codeRec_of KX hcd) (hb _ _ _ _ ?_)
 refine wpAny_newFunctionEnv_cells S.kind hkind fun env he s1 x=>?_
 subst he
 refine⟨lim.keeps x.toInCall.keep,codeAny_func ?_⟩
 obtain⟨t,ht,hq⟩:=hbody A outer s H vs Q E (hr.deeper _) hsp
 have I:Inv (A8 CX P w K mg base N qual scope f cdv A outer s H E) [] (start N vs) H s1:=vo S hr.hd e0 hl r x
 refine Da (ht [] s1 (start N vs) H _ I hq) (fun fl s' hs=>?_) fun e s' hs=>hs
 have fin:∀{σ':St} {H':Hp} {v:V} {u:Value},Inv (A8 CX P w K mg base N qual scope f cdv A outer s H E) [] σ' H' s'→RelV v u→Q v H'→CE outer P w H s Q u s' :=
  fun {σ' H' v u} J rv q=>⟨v,H',J.os,J.bare,J.base,J.hok,rv,q⟩
 cases fl with
 | ret u =>
  obtain⟨v,σ',H',J,rv,q⟩:=hs
  exact fin J rv q
 | next =>
  obtain⟨σ',H',J,q⟩:=hs
  exact fin (v:=V.non) (u:=Value.none) J rfl q
 | brk =>
  obtain⟨_,_,_,q⟩:=hs
  exact False.elim q
 | cont =>
  obtain⟨_,_,_,q⟩:=hs
  exact False.elim q
end L2
namespace L2
open PySem PySem.Spec PyProof.Rows
section
variable {X : Cx} {x : Str} {p pos : Pos} {e : Expr} {es : List Expr} {t : TA} {id T : String} {r : List V → Hp → VK → Prop}
noncomputable def tCB (r:List V→Hp→VK→Prop) (t:TA):TE:=fun σ H Q=>t σ H fun vs H1=>r vs H1 Q
theorem iw (hc:bx X (.builtin id) r) (hg:Gl X x) (hm:X.mg x=none) (hv:bootBuiltins x=some (.builtin id)) (ha:PA X (e::es) t) (hn:x≠"__name__":=by decide) (hdb:(x==("__debug__":Str))=false:=by decide)
  (he:starEach (e::es) X.env=(false,eval e X.env)::starEach es X.env:=by rfl) (hpl:(backTo pos (starEach es X.env)).any (·.1)=false:=by rfl):PE X (.Call (.Name x p) (e::es) [] pos) (tCB r t):=by
 intro pins s σ H Q I h
 refine DF (i5 I hg hm hv ?_ hn hdb)
 exact EM (thn (ha pos pins s σ H _ I h) fun us s1 ⟨vs,H1,I1,r1,q1⟩=>hc pins s1 σ H1 vs us Q I1 r1 q1) he hpl
theorem i6 (hc:bx X (.type T) r) (hg:Gl X x) (hm:X.mg x=none) (hv:bootBuiltins x=some (.type T)) (ha:PA X (e::es) t) (hn:x≠"__name__":=by decide) (hdb:(x==("__debug__":Str))=false:=by decide)
  (he:starEach (e::es) X.env=(false,eval e X.env)::starEach es X.env:=by rfl) (hpl:(backTo pos (starEach es X.env)).any (·.1)=false:=by rfl):PE X (.Call (.Name x p) (e::es) [] pos) (tCB r t):=by
 intro pins s σ H Q I h
 refine DF (i5 I hg hm hv ?_ hn hdb)
 exact CO (thn (ha pos pins s σ H _ I h) fun us s1 ⟨vs,H1,I1,r1,q1⟩=>hc pins s1 σ H1 vs us Q I1 r1 q1) he hpl
end
end L2
namespace HT
open PySem PyProof.Rows
noncomputable def lexLt:List Int→List Int→Bool
 | [],[]=>false
 | [],_::_=>true
 | _::_,[]=>false
 | x::xs,y::ys=>if x=y then lexLt xs ys else decide (x<y)
theorem cw (x y:Int) (xs ys:List Int):lexLt (x::xs) (y::ys)=if x=y then lexLt xs ys else decide (x<y):=rfl
theorem eg:lexLt [] []=false:=rfl
theorem dq (y:Int) (ys:List Int):lexLt [] (y::ys)=true:=rfl
theorem dr (x:Int) (xs:List Int):lexLt (x::xs) []=false:=rfl
theorem kz (A:Around) (s:Shared) (a:Int) (t:Tok) (c:Int) (u:Tok):∃e,SeqAt.EqAt A s (.int a t) (.int c u) e∧(e=true↔a=c) :=
 ⟨(a==c),HA a t c u,by simp⟩
theorem zo (A:Around) (s:Shared) (a:Int) (t:Tok) (c:Int) (u:Tok) (prog:Program) (w:World) (E:Value→Shared→Prop) (Q:Value→Shared→Prop) (h:Q (.bool (decide (a<c))) s) :
  wpAny (model prog w) A (richCompare .Lt (.int a t) (.int c u)) Q E s :=
 (PyProof.Rows.lt_int h:wpAny (model prog w) A (compareOp .Lt (.int a t) (.int c u)) Q E s)
section
open PySem.SeqAt
open PySem.AutoSeq1 (wpAny_loadPart')
open PySem.MeetsSeq PySem.MeetsSeq2 PySem.MeetsSeq3
theorem k0 (l b:Addr) (items items2:Array Value) (n n2:Nat) (dd dd2:Option Addr) (sl sl2:Array (Option Value)) (ns ms:List Int) (hi:IntsAre items.toList ns) (hj:IntsAre items2.toList ms) :
  Meets (Builtin.«tuple.__lt__» ⟨[.ref l,.ref b],[]⟩)
   (fun _ R s=>s.heap.get? l=some {cls:=.type "tuple",dict:=dd,data:=.seq items n,slots:=sl}∧s.heap.get? b=some {cls:=.type "tuple",dict:=dd2,data:=.seq items2 n2,slots:=sl2} ∧
    R (.ok (.ret (.bool (lexLt ns ms)))) s) :=
 .of_wp fun prog w A R s h=>by
  obtain⟨hp,g,d,tk,os⟩:=s;obtain⟨hl,hb,h⟩:=h
  have f2:=DX
  have z1:items.size=ns.length:=by rw[←hi.length];simp
  have z2:items2.size=ms.length:=by rw[←hj.length];simp
  wp_walk using DI hl,DI hb,FY _ (fun rest b s'=>b.1=none∧s'=⟨hp,g,d,tk,os⟩∧∃(vs ws:List Value) (ns' ms':List Int),rest=vs.zip ws ∧
   IntsAre vs ns'∧IntsAre ws ms'∧ns'.length+items2.size=ms'.length+items.size∧R (.ok (.ret (.bool (lexLt ns' ms')))) ⟨hp,g,d,tk,os⟩) _
  case turn =>
   rintro⟨y,x⟩ rest b s' ⟨hb',rfl,vs,ws,ns',ms',hz,hvi,hwi,hlen,hR⟩
   cases hvi with
   | nil=>rw[FP]at hz;cases hz
   | cons a t hvi' =>
    cases hwi with
    | nil=>rw[FI]at hz;cases hz
    | cons c u hwi' =>
     rw[CI]at hz
     injection hz with hyx hrest
     injection hyx with hy hx
     subst hy hx
     rw[cw]at hR
     simp only[BJ]at hlen
     obtain⟨e,he,hiff⟩:=kz A.in1 ⟨hp,g,d,tk,os⟩ a t c u
     refine AA (he prog w _ _ ?_)
     cases e with
     | true =>
      rw[if_pos (hiff.mp rfl)]at hR
      wp_walk
      exact⟨rfl,rfl,_,_,_,_,hrest,hvi',hwi',by lia,hR⟩
     | false =>
      rw[if_neg (fun q=>absurd (hiff.mpr q) AW)]at hR
      have hri:=zo A.in1 ⟨hp,g,d,tk,os⟩ a t c u prog w
      wp_walk using hri
      exact⟨_,rfl,by simpa using hR⟩
  case fin =>
   rintro⟨b1,b2⟩ s' ⟨hb',rfl,vs,ws,ns',ms',hz,hvi,hwi,hlen,hR⟩
   simp only at hb'
   subst hb'
   have hv:lexLt ns' ms'=decide (items.size<items2.size):=by
    cases hvi with
    | nil =>
     cases hwi with
     | nil =>
      simp only[CD]at hlen
      rw[eg]
      exact(decide_eq_false (by lia)).symm
     | cons c u hw =>
      simp only[CD,BJ]at hlen
      rw[dq]
      exact(decide_eq_true (by lia)).symm
    | cons a t hv =>
     cases hwi with
     | nil =>
      simp only[CD,BJ]at hlen
      rw[dr]
      exact(decide_eq_false (by lia)).symm
     | cons c u hw =>
      rw[CI]at hz
      cases hz
   rw[hv]at hR
   wp_walk
   exact⟨_,rfl,by simpa[Builtin.Tuple.tupleCompareSizes]using hR⟩
  case h =>
   exact⟨rfl,rfl,items.toList,items2.toList,ns,ms,rfl,hi,hj,by lia,h⟩
end
section
variable {prog : Program} {w : World} {A : Around} {E : Value → Shared → Prop} {s : Shared}
theorem tq {l b:Addr} {items items2:Array Value} {ns ms:List Int} {Q:Value→Shared→Prop} (hl:IsTup s.heap l items) (hb:IsTup s.heap b items2) (hi:IntsAre items.toList ns) (hj:IntsAre items2.toList ms)
  (hu:A.units<cLine) (h:Q (.bool (lexLt ns ms)) s):wpAny (model prog w) A (compareOp .Lt (.ref l) (.ref b)) Q E s:=by
 obtain⟨⟨cls,dd,data,sl⟩,ho,hc,n,hd⟩:=id hl
 obtain⟨⟨cls2,dd2,data2,sl2⟩,ho2,hc2,n2,hd2⟩:=id hb
 simp only at hc hd hc2 hd2
 subst hc hd hc2 hd2
 exact EJ (op:=.Lt) ⟨_,ho,rfl⟩ ⟨_,ho2,rfl⟩ PySem.F.slot_tuple_lt PySem.F.entry_tuple_lt (PySem.F.args_tuple_lt_2 _ _) (k0 l b items items2 n n2 dd dd2 sl sl2 ns ms hi hj)
  ⟨ho,ho2,show Value.bool (lexLt ns ms)≠Value.notImplemented∧Q (.bool (lexLt ns ms)) s from⟨(fun x=>nomatch x),h⟩⟩ hu
theorem Ca {t b:Addr} {vs ws:List Value} {Q:Value→Shared→Prop} (ht:IsTup s.heap t vs.toArray) (hb:IsTup s.heap b ws.toArray) (hv:vs≠[])
  (h1:ws=[]→Q (.ref t) s) (h2:ws≠[]→Q (.ref s.heap.objs.size) {s with heap:=s.heap.push {cls:=.type "tuple",data:=.seq (vs++ws).toArray}})
  (hsz:vs.length+ws.length≤sizeLine):wpAny (model prog w) A (binaryOp .Add (.ref t) (.ref b)) Q E s:=by
 obtain⟨⟨cls,dd,data,sl⟩,ho,hc,n,hd⟩:=id ht
 obtain⟨⟨cls2,dd2,data2,sl2⟩,ho2,hc2,n2,hd2⟩:=id hb
 simp only at hc hd hc2 hd2
 subst hc hd hc2 hd2
 have e:vs.toArray++ws.toArray=(vs++ws).toArray:=by simp
 by_cases hw:ws=[]
 ·exact concat_meets ⟨_,ho,rfl⟩ ⟨_,ho2,rfl⟩ FZ seq_tuple_add EK EF (DY _ _)
   (tuple_addW1 t b vs.toArray ws.toArray n n2 dd dd2 sl sl2 (by simpa using hv) (by simp[hw])) ⟨ho,ho2,h1 hw⟩
 ·refine concat_meets ⟨_,ho,rfl⟩ ⟨_,ho2,rfl⟩ FZ seq_tuple_add EK EF (DY _ _)
   (tuple_addW2 t b vs.toArray ws.toArray n n2 dd dd2 sl sl2 (by simpa using hv) (by simpa using hw) (by rw[AE,AE];exact hsz)) ⟨ho,ho2,?_⟩
  rw[e]
  exact h2 hw
noncomputable def sIx (n d:Nat):Option Int→Nat
 | none=>d
 | some v=>if v<0 then(v+(n:Int)).toNat else min v.toNat n
theorem Eu (n d:Nat) (hd:d≤n) (o:Option Int):sIx n d o≤n:=by
 cases o with
 | none=>exact hd
 | some v =>
  show(if v<0 then(v+(n:Int)).toNat else min v.toNat n)≤n
  by_cases hv:v<0
  ·rw[if_pos hv];lia
  ·rw[if_neg hv];exact Nat.min_le_right _ _
theorem vp (v:Int) (n d:Nat):(if v<0 then max (v+(n:Int)) 0 else min v (n:Int))=((sIx n d (some v):Nat):Int):=by
 show(if v<0 then max (v+(n:Int)) 0 else min v (n:Int))=(((if v<0 then(v+(n:Int)).toNat else min v.toNat n):Nat):Int)
 by_cases hv:v<0
 ·simp only[if_pos hv];lia
 ·simp only[if_neg hv];lia
theorem tu (lo hi:Option Int) (n:Nat):Builtin.Slice.sliceAdjust lo hi 1 (n:Int)=(((sIx n 0 lo:Nat):Int),((sIx n n hi:Nat):Int)):=by
 have h1:¬((1:Int)<0):=by lia
 unfold Builtin.Slice.sliceAdjust
 simp only[h1,if_false]
 refine Prod.ext ?_ ?_
 ·cases lo with
  | none=>rfl
  | some v=>exact vp v n 0
 ·cases hi with
  | none=>rfl
  | some v=>exact vp v n n
theorem tv (i j:Nat):Builtin.Slice.slicePlaces (i:Int) (j:Int) 1=j-i:=by
 unfold Builtin.Slice.slicePlaces
 have h1:(1:Int) > 0:=by lia
 simp only[h1,if_true,Int.ediv_one]
 split<;>lia
theorem kd {v:Value} {o:Option Int} {Q:Option Int→Shared→Prop} (p:IsPart v o) (h:Q o s):wpAny (model prog w) A (Builtin.Slice.slicePartIndex v) Q E s:=by
 cases p with
 | none=>exact slicePart_none h
 | int i t=>exact slicePart_int h
theorem ff {sl:Addr} {vl vu:Value} {lo hi:Option Int} {n:Nat} {Q:Int×Int×Nat→Shared→Prop} (hs:s.heap.IsSliceOf sl vl vu .none) (pl:IsPart vl lo) (pu:IsPart vu hi)
  (h:Q (((sIx n 0 lo:Nat):Int),1,sIx n n hi-sIx n 0 lo) s):wpAny (model prog w) A (Builtin.Slice.sliceApplied (.ref sl) (pure (n:Int))) Q E s:=by
 obtain⟨os,hos,hcs,hds⟩:=id hs
 unfold Builtin.Slice.sliceApplied Builtin.Slice.sliceFields
 refine AA (AA (BS hos hds (x:=vl) rfl (AA (BS hos hds (x:=vu) rfl (AA (BS hos hds (x:=.none) rfl (AD ?_)))))))
 refine AA (slicePart_none ?_)
 show wpAny _ _ (if((1:Int)==0)=true then _ else _) _ _ s
 rw[if_neg (by decide)]
 refine AA (kd pl (AA (kd pu (AA (AD ?_)))))
 show wpAny _ _ (match Builtin.Slice.sliceAdjust lo hi 1 (n:Int)with | (lo,hi)=>pure (lo,(1:Int),Builtin.Slice.slicePlaces lo hi 1)) _ _ s
 rw[tu lo hi n]
 show wpAny _ _ (pure (((sIx n 0 lo:Nat):Int),(1:Int),Builtin.Slice.slicePlaces ((sIx n 0 lo:Nat):Int) ((sIx n n hi:Nat):Int) 1)) _ _ s
 rw[tv]
 exact AD h
theorem zp (xs:Array Value) (i k:Nat):((List.range k).filterMap fun(m:Nat)=>xs[((i:Int)+(m:Int)*1).toNat]?).toArray=((xs.toList.drop i).take k).toArray:=by
 have e:(fun(m:Nat)=>xs[((i:Int)+(m:Int)*1).toNat]?)=fun m=>xs[i+m]?:=by
  funext m
  have:((i:Int)+(m:Int)*1).toNat=i+m:=by lia
  rw[this]
 rw[e]
 have:=pick_run xs i k
 rw[List.filterMap_map]at this
 have e2:((fun x=>xs[x]?)∘fun x=>i+x)=fun m=>xs[i+m]?:=rfl
 rw[e2]at this
 rw[this]
theorem g9 {t sl:Addr} {items:Array Value} {vl vu:Value} {lo hi:Option Int} {Q:Value→Shared→Prop} (ht:IsTup s.heap t items) (hs:s.heap.IsSliceOf sl vl vu .none) (pl:IsPart vl lo) (pu:IsPart vu hi)
  (hw:¬(sIx items.size 0 lo=0∧sIx items.size items.size hi=items.size))
  (h:Q (.ref s.heap.objs.size) {s with heap:=s.heap.push {cls:=.type "tuple",data:=.seq ((items.toList.drop (sIx items.size 0 lo)).take (sIx items.size items.size hi-sIx items.size 0 lo)).toArray}})
  (hsz:items.size≤sizeLine):wpAny (model prog w) A (getItem (.ref t) (.ref sl)) Q E s:=by
 have htake:sizeOk (.seq ((items.toList.drop (sIx items.size 0 lo)).take (sIx items.size items.size hi-sIx items.size 0 lo)).toArray):=by
  show((items.toList.drop (sIx items.size 0 lo)).take (sIx items.size items.size hi-sIx items.size 0 lo)).toArray.size≤sizeLine
  rw[AE,DT,List.length_drop,BM]
  lia
 have hj:sIx items.size items.size hi≤items.size:=Eu _ _ (AL _) hi
 obtain⟨os,hos,hcs,hds⟩:=id hs
 have hTs:s.TypeIs (.ref sl) "slice":=⟨os,hos,hcs⟩
 unfold getItem
 try with_reducible refine CP ?_
 first | refine AA (AD ?_) | skip
 refine AA (wpAny_sequenceKey ht.typeIs (by decide) ?_)
 refine AA (BA (name:=Str.ofString "__getitem__") ht.typeIs BL
  (BK BL ht.typeIs entry_tuple_getitem ?_ (args_tuple_getitem _ _)))
 show wpAny _ _ (Builtin.Tuple.tupleItemsOf (.ref t)>>=_) _ _ s
 refine AA (tupleItemsOf_ ht ?_)
 refine AA (FB hTs ?_)
 rw[if_pos (by decide)]
 refine AA (ff hs pl pu ?_)
 have hno:¬((((sIx items.size 0 lo:Nat):Int)==0&&(1:Int)==1&&(sIx items.size items.size hi-sIx items.size 0 lo)==items.size)=true):=by
  intro q
  rw[AX,AX]at q
  have q1:((sIx items.size 0 lo:Nat):Int)=0:=eq_of_beq q.1.1
  have q2:sIx items.size items.size hi-sIx items.size 0 lo=items.size:=eq_of_beq q.2
  exact hw ⟨by lia,by lia⟩
 show wpAny _ _ (if(((sIx items.size 0 lo:Nat):Int)==0&&(1:Int)==1&&(sIx items.size items.size hi-sIx items.size 0 lo)==items.size)=true then _ else _) _ _ s
 rw[if_neg hno,zp]
 first
  | exact AA (m:=Builtin.Tuple.tupleExact _) (BB (AD ⟨_,rfl,AD h⟩) htake)
  | exact AA (m:=Builtin.Tuple.tupleExact _) (BB (AA (AD (AD ⟨_,rfl,AD h⟩))) htake)
  | exact AA (AA (m:=Builtin.Tuple.tupleExact _) (BB (AD (AD ⟨_,rfl,AD h⟩)) htake))
  | exact AA (AA (m:=Builtin.Tuple.tupleExact _) (BB (AD ⟨_,rfl,AD h⟩) htake))
end
end HT
namespace L2
open PySem PySem.Spec PyProof.Rows
noncomputable abbrev TO:=St→Hp→(Option Int→Hp→Prop)→Prop
noncomputable def PO (X:Cx) (e:Option Expr) (t:TO):Prop :=
 ∀(pins:List (Addr×Obj)) (s:Shared) (σ:St) (H:Hp) (Q:Option Int→Hp→Prop),Inv X pins σ H s→t σ H Q →
  wpAny (model X.prog X.w) X.A (evalPart e X.env) (fun u s'=>∃o H',Inv X pins σ H' s'∧IsPart u o∧Q o H') X.xe s
noncomputable def tNoPart:TO:=fun _ H Q=>Q none H
noncomputable def Ic (t:TE):TO:=fun σ H Q=>t σ H fun x H1=>∃i,x=.int i∧Q (some i) H1
theorem intsAre_of {ns:List Int}:∀{us:List Value},a9 (ns.map V.int) us→IntsAre us ns:=by
 induction ns with
 | nil=>intro us r;rw[EL]at r;cases r;exact .nil
 | cons n ns ih =>
  intro us r
  rw[AZ]at r
  cases r with
  | cons r1 r2 =>
   obtain⟨t,e⟩:=r1
   subst e
   exact .cons n t (ih r2)
section
variable {X : Cx} {e : Expr} {te : TE} {lo hi : Option Expr} {tl th : TO} {pos p2 : Pos}
theorem Cb:PO X none tNoPart:=by
 intro pins s σ H Q I h
 rw[evalPart_none]
 exact AD ⟨none,H,I,.none,h⟩
theorem Cc (h:PE X e te):PO X (some e) (Ic te):=by
 intro pins s σ H Q I hw
 rw[evalPart_some]
 refine thn (h pins s σ H _ I hw) fun u s1 ⟨x,H1,I1,r1,q1⟩=>?_
 obtain⟨i,rfl,q⟩:=q1
 obtain⟨t,rfl⟩:=r1
 exact⟨some i,H1,I1,.int i t,q⟩
noncomputable def SlR (X:Cx) (r:V→Option Int→Option Int→Hp→VK→Prop):Prop :=
 ∀(pins:List (Addr×Obj)) (s:Shared) (σ:St) (H:Hp) (x:V) (v vl vu:Value) (lo hi:Option Int) (sl:Addr) (Q:VK),Inv X pins σ H s→RelV x v→s.heap.IsSliceOf sl vl vu .none→IsPart vl lo→IsPart vu hi→r x lo hi H Q →
  ∃T id,typeLookup (.type T) "__getitem__"=pure (some (.builtin id))∧s.TypeIs v T∧wpAny (model X.prog X.w) X.A (getItem v (.ref sl)) (EP X pins σ Q) X.xe s
noncomputable def tSl (r:V→Option Int→Option Int→Hp→VK→Prop) (te:TE) (tl th:TO):TE:=fun σ H Q=>te σ H fun x H1=>tl σ H1 fun l H2=>th σ H2 fun u H3=>r x l u H3 Q
theorem zq {r:V→Option Int→Option Int→Hp→VK→Prop} (hr:SlR X r) (he:PE X e te) (hl:PO X lo tl) (hu:PO X hi th):PE X (.Subscript e (.Slice lo hi none p2) pos) (tSl r te tl th):=by
 intro pins s σ H Q I h
 refine Subscript_ (thn (he pins s σ H _ I h) fun v s1 ⟨x,H1,I1,r1,q1⟩=>?_)
 refine wpAny_Slice (thn (hl pins s1 σ H1 _ I1 q1) fun vl s2 ⟨l,H2,I2,pl,q2⟩=>thn (hu pins s2 σ H2 _ I2 q2) fun vu s3 ⟨u,H3,I3,pu,q3⟩=>?_)
 rw[evalPart_none]
 refine AD ?_
 have I4:Inv X pins σ H3 {s3 with heap:=s3.heap.push {cls:=.type "slice",data:=.fields #[vl,vu,.none]}}:=I3.kept (t':=s3.toks) fun b ob q=>AB _ q
 obtain⟨T,id,hT,ht,hg⟩:=hr pins {s3 with heap:=s3.heap.push {cls:=.type "slice",data:=.fields #[vl,vu,.none]}} σ H3 x v vl vu l u s3.heap.objs.size Q I4 r1 (Heap.IsSliceOf.new ..) pl pu q3
 show wpAny (model X.prog X.w) X.A (subscriptTail e (.Slice lo hi none p2) v (.ref s3.heap.objs.size)) (EP X pins σ Q) X.xe {s3 with heap:=s3.heap.push {cls:=.type "slice",data:=.fields #[vl,vu,.none]}}
 exact tail_any (ops:=[.ref s3.heap.objs.size,v]) ht hT hg (by with_unfolding_all rfl)
noncomputable def A9 (xs:List V) (lo hi:Option Int):List V:=(xs.drop (HT.sIx xs.length 0 lo)).take (HT.sIx xs.length xs.length hi-HT.sIx xs.length 0 lo)
theorem i7 (xs:List V) (lo hi:Option Int):(A9 xs lo hi).length≤xs.length:=by
 unfold A9
 rw[DT,List.length_drop]
 lia
noncomputable def Nc (K:PySem.W.Frag):V→Option Int→Option Int→Hp→VK→Prop:=fun x lo hi H Q=>∃a xs,x=.ref a∧SqT K H a xs ∧
 ¬(HT.sIx xs.length 0 lo=0∧HT.sIx xs.length xs.length hi=xs.length)∧∀p,H p=none→Q (.ref p) (upd H p (.tup (A9 xs lo hi)))
theorem Ew:SlR X (Nc X.K):=by
 intro pins s σ H x v vl vu lo hi sl Q I rx hs pl pu h
 obtain⟨a,xs,rfl,hx,hw,q⟩:=h
 cases rx
 obtain⟨its,r,ht,hz⟩:=I.tuple hx
 have hlen:its.toArray.size=xs.length:=by rw[AE];exact r.length.symm
 refine⟨"tuple",_,BL.lookup,ht.typeIs,?_⟩
 refine HT.g9 ht hs pl pu (by rw[hlen];exact hw) ?_ (by rw[hlen];exact hz)
 rw[hlen]
 refine⟨.ref s.heap.objs.size,_,I.laid (t':=s.toks) (o:=.tup (A9 xs lo hi)) (fun b ob q=>AB _ q) (AL _) ?_,rfl,q _ (I.hok.fresh (AL _))⟩
 exact⟨BV (i7 xs lo hi) hz,_,(r.drop (HT.sIx xs.length 0 lo)).take (HT.sIx xs.length xs.length hi-HT.sIx xs.length 0 lo),ij.new _ _⟩
noncomputable def Nd (K:PySem.W.Frag):R2:=fun x y H Q=>∃a b ns ms,x=.ref a∧y=.ref b∧SqT K H a (ns.map V.int)∧SqT K H b (ms.map V.int)∧Q (.bl (HT.lexLt ns ms)) H
theorem Ey (hu:X.A.units<cLine):OpR X (compareOp .Lt) (Nd X.K):=by
 intro pins s σ H x y v u Q I rx ry h
 obtain⟨a,b,ns,ms,rfl,rfl,ha,hb,q⟩:=h
 cases rx
 cases ry
 obtain⟨its,r1,p1,_⟩:=I.tuple ha
 obtain⟨its2,r2,p2,_⟩:=I.tuple hb
 have i1:IntsAre its.toArray.toList ns:=intsAre_of r1
 have i2:IntsAre its2.toArray.toList ms:=intsAre_of r2
 exact HT.tq p1 p2 i1 i2 hu ⟨.bl (HT.lexLt ns ms),H,I,rfl,q⟩
noncomputable def Ie (K:PySem.W.Frag):R2:=fun x y H Q=>∃a b xs ys,x=.ref a∧y=.ref b∧SqT K H a xs∧SqT K H b ys∧xs≠[]∧xs.length+ys.length≤sizeLine ∧
 (ys=[]→Q (.ref a) H)∧(ys≠[]→∀p,H p=none→Q (.ref p) (upd H p (.tup (xs++ys))))
theorem a9.nil_iff {xs:List V} {us:List Value} (r:a9 xs us):us=[]↔xs=[]:=by
 cases r with
 | nil=>simp
 | cons _ _=>simp
theorem Cd:OpR X (binaryOp .Add) (Ie X.K):=by
 intro pins s σ H x y v u Q I rx ry h
 obtain⟨a,b,xs,ys,rfl,rfl,ha,hb,hx,hz,q1,q2⟩:=h
 cases rx
 cases ry
 obtain⟨its,r1,p1,_⟩:=I.tuple ha
 obtain⟨its2,r2,p2,_⟩:=I.tuple hb
 refine HT.Ca p1 p2 (fun z=>hx (r1.nil_iff.mp z)) (fun z=>⟨.ref a,H,I,rfl,q1 (r2.nil_iff.mp z)⟩) (fun z=>?_) (by rw[←r1.length,←r2.length];exact hz)
 refine⟨.ref s.heap.objs.size,_,I.laid (t':=s.toks) (o:=.tup (xs++ys)) (fun b ob q=>AB _ q) (AL _) ?_,rfl,q2 (fun w=>z (r2.nil_iff.mpr w)) _ (I.hok.fresh (AL _))⟩
 exact⟨by rw[CH];exact hz,_,r1.append r2,ij.new _ _⟩
end
end L2
namespace L2
open PySem PySem.Spec PyProof.Rows
noncomputable def ixN (n:Nat) (i:Int):Option Nat:=if 0≤i then(if i<n then some i.toNat else none)else if -(n:Int)≤i then some (i+n).toNat else none
noncomputable def atI {α:Type} (xs:List α) (i:Int):Option α:=(ixN xs.length i).bind fun j=>xs[j]?
theorem Ce {n:Nat} {i:Int} {j:Nat} (h:ixN n i=some j):seqIndex? i n=some j∧j<n ∧ -(n:Int)≤i∧i<n:=by
 unfold ixN at h
 by_cases h0:0≤i
 ·rw[if_pos h0]at h
  by_cases h1:i<n
  ·rw[if_pos h1]at h
   have e:i.toNat=j:=BF h
   exact⟨by rw[seqIndex_of h0 h1,e],by lia,by lia,h1⟩
  ·rw[if_neg h1]at h;cases h
 ·rw[if_neg h0]at h
  by_cases h1:-(n:Int)≤i
  ·rw[if_pos h1]at h
   have e:(i+n).toNat=j:=BF h
   exact⟨by rw[seqIndex_neg (by lia) h1,e],by lia,h1,by lia⟩
  ·rw[if_neg h1]at h;cases h
theorem p7 {α:Type} {xs:List α} {i:Int} {v:α} (h:atI xs i=some v):∃j,seqIndex? i xs.length=some j∧xs[j]? = some v∧j<xs.length ∧ -(xs.length:Int)≤i∧i<xs.length:=by
 unfold atI at h
 cases e:ixN xs.length i with
 | none=>rw[e]at h;cases h
 | some j =>
  rw[e]at h
  obtain⟨h1,h2,h3,h4⟩:=Ce e
  exact⟨j,h1,h,h2,h3,h4⟩
noncomputable def p8 (b:Expr):Prop:=∀o i,subscripted b false o i=operate [o,i] (getItem o i)
noncomputable def IxR (X:Cx) (r:R2):Prop :=
 ∀(value slice:Expr) (pins:List (Addr×Obj)) (s:Shared) (σ:St) (H:Hp) (x y:V) (v u:Value) (Q:VK),Inv X pins σ H s→RelV x v→RelV y u→r x y H Q →
  subscripted slice false v u=operate [v,u] (getItem v u)→wpAny (model X.prog X.w) X.A (subscriptTail value slice v u) (EP X pins σ Q) X.xe s
noncomputable def MtR (X:Cx) (id:String) (r:V→List V→Hp→VK→Prop):Prop :=
 ∀(pins:List (Addr×Obj)) (s:Shared) (σ:St) (H:Hp) (x:V) (xs:List V) (v:Value) (us:List Value) (Q:VK),Inv X pins σ H s→RelV x v→a9 xs us→r x xs H Q →
  wpAny (model X.prog X.w) X.A (call (.builtin id) (v::us)) (EP X pins σ Q) X.xe s
section
variable {X : Cx} {a b : Expr} {ta tb : TE} {pos : Pos}
theorem IxR.or {r r':R2} (h:IxR X r) (h':IxR X r'):IxR X (fun x y H Q=>r x y H Q∨r' x y H Q):=by
 intro value slice pins s σ H x y v u Q I rx ry q hs
 rcases q with q | q
 ·exact h value slice pins s σ H x y v u Q I rx ry q hs
 ·exact h' value slice pins s σ H x y v u Q I rx ry q hs
theorem Ig {r:R2} (hr:IxR X r) (ha:PE X a ta) (hb:PE X b tb) (hs:p8 b):PE X (.Subscript a b pos) (tOp r ta tb):=by
 intro pins s σ H Q I h
 exact Subscript_ (K0 ha hb I h fun v u s2 x y H2 I2 rx ry q=>hr a b pins s2 σ H2 x y v u Q I2 rx ry q (hs _ _))
noncomputable def K3 (K:PySem.W.Frag):R2:=fun x y H Q=>∃p xs i v,x=.ref p∧y=.int i∧SqL K H p xs∧atI xs i=some v∧Q v H
noncomputable def K4 (K:PySem.W.Frag):R2:=fun x y H Q=>∃p xs i v,x=.ref p∧y=.int i∧SqT K H p xs∧atI xs i=some v∧Q v H
noncomputable def rIxS:R2:=fun x y H Q=>∃z i c,x=.str z∧y=.int i∧z.length≤sizeLine∧atI z.cps.toList i=some c∧Q (.str ⟨#[c]⟩) H
theorem Cf:IxR X (K3 X.K):=by
 intro value slice pins s σ H x y v u Q I rx ry h hs
 obtain⟨p,xs,i,z,rfl,rfl,hq,he,q⟩:=h
 cases rx
 obtain⟨t,rfl⟩:=ry
 obtain⟨its,r,pl,hz⟩:=I.list hq
 obtain⟨j,h1,h2,h3,h4,h5⟩:=p7 he
 obtain⟨w,ew,rw'⟩:=r.get h2
 have hl:=r.length
 have hn:=ng
 have fin:EP X pins σ Q w s:=⟨z,H,I,rw',q⟩
 by_cases h0:0≤i
 ·have hj:i.toNat=j:=by
   rw[seqIndex_of h0 h5]at h1
   exact BF h1
  exact item_listR pl.isList h0 (by lia) (by rw[hj];simpa using ew) fin hs
 ·have hj:(i+(its.toArray.size:Int)).toNat=j:=by
   rw[seqIndex_neg (by lia) h4]at h1
   rw[AE,←hl]
   exact BF h1
  exact subscriptTail_builtinR (x:=w) pl.isList.typeIs slot_list_getitem.lookup
   (wpAny_getItem_list_neg (Q:=fun r s'=>r=w∧EP X pins σ Q r s') pl.isList (by lia) (by rw[AE]<;>lia) (by lia) (by rw[hj];simpa using ew) ⟨rfl,fin⟩) hs
theorem Ez:IxR X (K4 X.K):=by
 intro value slice pins s σ H x y v u Q I rx ry h hs
 obtain⟨p,xs,i,z,rfl,rfl,hq,he,q⟩:=h
 cases rx
 obtain⟨t,rfl⟩:=ry
 obtain⟨its,r,pl,hz⟩:=I.tuple hq
 obtain⟨j,h1,h2,h3,h4,h5⟩:=p7 he
 obtain⟨w,ew,rw'⟩:=r.get h2
 have hl:=r.length
 have hn:=ng
 have fin:EP X pins σ Q w s:=⟨z,H,I,rw',q⟩
 exact subscriptTail_builtinR (x:=w) pl.typeIs slot_tuple_getitem.lookup
  (getItem_tuple (j:=j) (Q:=fun r s'=>r=w∧EP X pins σ Q r s') pl (by lia) (by lia) (by rw[AE,←hl];exact h1) (by simpa using ew) ⟨rfl,fin⟩) hs
theorem E1:IxR X rIxS:=by
 intro value slice pins s σ H x y v u Q I rx ry h hs
 obtain⟨z,i,c,rfl,rfl,hz,he,q⟩:=h
 obtain⟨t,rfl⟩:=rx
 obtain⟨t',rfl⟩:=ry
 obtain⟨j,h1,h2,h3,h4,h5⟩:=p7 he
 have hl:z.cps.toList.length=z.length:=by simp[Str.length]
 rw[hl]at h1 h4 h5
 have hn:=ng
 exact tail_any (typeIs_str s z t) slot_str_getitem.lookup (getItem_str (c:=c) (by
  have e1:decide (i < -(2 ^ 63:Int))=false:=decide_eq_false (by lia)
  have e2:decide (i≥2 ^ 63)=false:=decide_eq_false (by lia)
  rw[e1,e2,Bool.or_false]) (by rw[h1];simpa using h2) ⟨.str ⟨#[c]⟩,H,I.tok _,⟨_,rfl⟩,q⟩) hs
noncomputable def rIx (K:PySem.W.Frag):R2:=fun x y H Q=>K3 K x y H Q∨K4 K x y H Q∨rIxS x y H Q
theorem E2:IxR X (rIx X.K):=Cf.or (Ez.or E1)
theorem nq (lo hi:Option Int) (n:Nat):(sliceBounds lo hi none n).1=((HT.sIx n 0 lo:Nat):Int)∧(sliceBounds lo hi none n).2.1=((HT.sIx n n hi:Nat):Int)∧(sliceBounds lo hi none n).2.2=1:=by
 refine⟨?_,?_,rfl⟩
 ·cases lo with
  | none=>simp[sliceBounds,HT.sIx]
  | some i =>
   simp only[sliceBounds,HT.sIx,Option.getD_none,show(1:Int) > 0 by decide,if_true]
   by_cases h:i<0
   ·simp only[h,if_true]<;>lia
   ·simp only[h,if_false]<;>lia
 ·cases hi with
  | none=>simp[sliceBounds,HT.sIx]
  | some i =>
   simp only[sliceBounds,HT.sIx,Option.getD_none,show(1:Int) > 0 by decide,if_true]
   by_cases h:i<0
   ·simp only[h,if_true]<;>lia
   ·simp only[h,if_false]<;>lia
theorem k5 (its:List Value) (lo hi:Option Int):slicePick its.toArray lo hi none=((its.drop (HT.sIx its.length 0 lo)).take (HT.sIx its.length its.length hi-HT.sIx its.length 0 lo)).toArray:=by
 obtain⟨h1,h2,h3⟩:=nq lo hi its.toArray.size
 unfold slicePick
 rw[h1,h2,h3]
 simp only[sliceRange_one,pick_run,AE]<;>rfl
noncomputable def Nf (K:PySem.W.Frag):V→Option Int→Option Int→Hp→VK→Prop:=fun x lo hi H Q=>∃a xs,x=.ref a∧SqL K H a xs∧∀p,H p=none→Q (.ref p) (upd H p (.lst (A9 xs lo hi)))
theorem Cg:SlR X (Nf X.K):=by
 intro pins s σ H x v vl vu lo hi sl Q I rx hs pl pu h
 obtain⟨a,xs,rfl,hx,q⟩:=h
 cases rx
 obtain⟨its,r,ht,hz⟩:=I.list hx
 have hlen:=r.length
 refine⟨"list",_,slot_list_getitem.lookup,ht.isList.typeIs,?_⟩
 refine wpAny_getItem_list_slice ht.isList hs pl pu .none (by simp) ?_ (by rw[AE]<;>lia)
 rw[k5,←hlen]
 refine⟨.ref s.heap.objs.size,_,I.laid (t':=s.toks) (o:=.lst (A9 xs lo hi)) (fun b ob q=>AB _ q) (AL _) ?_,rfl,q _ (I.hok.fresh (AL _))⟩
 exact⟨BV (i7 xs lo hi) hz,_,0,(r.drop (HT.sIx xs.length 0 lo)).take (HT.sIx xs.length xs.length hi-HT.sIx xs.length 0 lo),AG _ rfl⟩
noncomputable def j7:V→Bool
 | .non=>true
 | .bl _=>true
 | .int _=>true
 | .str _=>true
 | _=>false
noncomputable def eqV:V→V→Bool
 | .non,.non=>true
 | .bl a,.bl b=>a==b
 | .bl a,.int b=>(if a then 1 else 0)==b
 | .int a,.bl b=>a==(if b then 1 else 0)
 | .int a,.int b=>a==b
 | .str a,.str b=>a==b
 | _,_=>false
theorem E3 {A:Around} {s:Shared} {y x:V} {u v:Value} (ry:RelV y u) (rx:RelV x v) (fy:j7 y=true) (fx:j7 x=true):SeqAt.EqAt A s u v (eqV y x):=by
 cases y with
 | non =>
  cases ry
  cases x with
  | non=>cases rx;exact SeqAt.EqAt.same _
  | bl b=>cases rx;exact SeqAt.EqAt.none_bool b
  | int b=>obtain⟨t,rfl⟩:=rx;exact SeqAt.EqAt.none_int b t
  | str b=>obtain⟨t,rfl⟩:=rx;exact SeqAt.EqAt.none_str b t
  | _=>exact absurd (show false=true from fx) AW
 | bl a =>
  cases ry
  cases x with
  | non=>cases rx;exact SeqAt.EqAt.bool_none a
  | bl b=>cases rx;exact SeqAt.EqAt.bool_bool a b
  | int b=>obtain⟨t,rfl⟩:=rx;exact SeqAt.EqAt.bool_int a b t
  | str b=>obtain⟨t,rfl⟩:=rx;exact SeqAt.EqAt.bool_str a b t
  | _=>exact absurd (show false=true from fx) AW
 | int a =>
  obtain⟨t',rfl⟩:=ry
  cases x with
  | non=>cases rx;exact SeqAt.EqAt.int_none a t'
  | bl b=>cases rx;exact SeqAt.EqAt.int_bool a t' b
  | int b=>obtain⟨t,rfl⟩:=rx;exact HA a t' b t
  | str b=>obtain⟨t,rfl⟩:=rx;exact GY a t' b t
  | _=>exact absurd (show false=true from fx) AW
 | str a =>
  obtain⟨t',rfl⟩:=ry
  cases x with
  | non=>cases rx;exact SeqAt.EqAt.str_none a t'
  | bl b=>cases rx;exact SeqAt.EqAt.str_bool a t' b
  | int b=>obtain⟨t,rfl⟩:=rx;exact GZ a t' b t
  | str b=>obtain⟨t,rfl⟩:=rx;exact SeqAt.EqAt.str_str a t' b t
  | _=>exact absurd (show false=true from fx) AW
 | _=>exact absurd (show false=true from fy) AW
noncomputable def eqU (x:V) (u:Value):Bool:=match u with
 | .none=>eqV .non x
 | .bool b=>eqV (.bl b) x
 | .int i _=>eqV (.int i) x
 | .str z _=>eqV (.str z) x
 | _=>false
theorem Ba {x y:V} {u:Value} (r:RelV y u) (f:j7 y=true):eqU x u=eqV y x:=by
 cases y with
 | non=>cases r;rfl
 | bl b=>cases r;rfl
 | int i=>obtain⟨t,rfl⟩:=r;rfl
 | str z=>obtain⟨t,rfl⟩:=r;rfl
 | _=>exact absurd (show false=true from f) AW
theorem i8 {x:V}:∀{xs:List V} {us:List Value},a9 xs us→xs.all j7=true→us.any (eqU x)=xs.any fun y=>eqV y x
 | _,_,.nil,_=>rfl
 | y::xs,u::us,.cons r t,f=>by
  rw[BO,AX]at f
  rw[CQ,CQ,Ba r f.1,i8 t f.2]
theorem gu {A:Around} {s:Shared} {x:V} {v:Value} (rx:RelV x v) (fx:j7 x=true):∀{xs:List V} {us:List Value},a9 xs us→xs.all j7=true→∀u∈us,SeqAt.EqAt A s u v (eqU x u)
 | _,_,.nil,_=>fun u hu=>by cases hu
 | y::xs,u::us,.cons r t,f=>fun u' hu=>by
  rw[BO,AX]at f
  rcases AJ.mp hu with rfl | hu
  ·rw[Ba r f.1];exact E3 r rx f.1 fx
  ·exact gu rx fx t f.2 u' hu
noncomputable def inV (x:V) (xs:List V):Bool:=xs.any fun y=>eqV y x
noncomputable def rIn (K:PySem.W.Frag) (neg:Bool):R2:=fun x y H Q=>∃p xs,y=.ref p∧(SqL K H p xs∨SqT K H p xs)∧j7 x=true∧xs.all j7=true∧Q (.bl (if neg then !inV x xs else inV x xs)) H
theorem vq:OpR X (compareOp .In) (rIn X.K false):=by
 intro pins s σ H x y v u Q I rx ry h
 obtain⟨p,xs,rfl,hq,fx,fs,q⟩:=h
 cases ry
 rcases hq with hq | hq
 ·obtain⟨its,r,pl,hz⟩:=I.list hq
  refine SeqAt.in_listAt (eqU x) pl.isList (fun w hw=>gu rx fx r fs w (by simpa using hw)) ⟨.bl _,H,I,rfl,?_⟩
  rw[show its.toArray.any (eqU x)=its.any (eqU x)by simp,i8 r fs]
  exact q
 ·obtain⟨its,r,pl,hz⟩:=I.tuple hq
  refine SeqAt.in_tupleAt (eqU x) pl (fun w hw=>gu rx fx r fs w (by simpa using hw)) ⟨.bl _,H,I,rfl,?_⟩
  rw[show its.toArray.any (eqU x)=its.any (eqU x)by simp,i8 r fs]
  exact q
theorem nr:OpR X (compareOp .NotIn) (rIn X.K true):=by
 intro pins s σ H x y v u Q I rx ry h
 obtain⟨p,xs,rfl,hq,fx,fs,q⟩:=h
 cases ry
 rcases hq with hq | hq
 ·obtain⟨its,r,pl,hz⟩:=I.list hq
  refine SeqAt.notIn_listAt (eqU x) pl.isList (fun w hw=>gu rx fx r fs w (by simpa using hw)) ⟨.bl _,H,I,rfl,?_⟩
  rw[show its.toArray.any (eqU x)=its.any (eqU x)by simp,i8 r fs]
  exact q
 ·obtain⟨its,r,pl,hz⟩:=I.tuple hq
  refine SeqAt.notIn_tupleAt (eqU x) pl (fun w hw=>gu rx fx r fs w (by simpa using hw)) ⟨.bl _,H,I,rfl,?_⟩
  rw[show its.toArray.any (eqU x)=its.any (eqU x)by simp,i8 r fs]
  exact q
theorem nu:bx X (.builtin "len") (fun xs H Q=>∃p ys,xs=[.ref p]∧(SqL X.K H p ys∨SqT X.K H p ys)∧Q (.int ys.length) H):=by
 intro pins s σ H xs us Q I r h
 obtain⟨p,ys,rfl,hq,q⟩:=h
 obtain⟨u,rfl,rx⟩:=vals1 r
 cases rx
 have hn:=ng
 rcases hq with hq | hq
 ·obtain⟨its,r',pl,hz⟩:=I.list hq
  have hlen:=r'.length
  exact Calls.call_len_list pl.isList (by simp only[AE]<;>lia) ⟨.int ys.length,H,I.tok _,⟨s.toks+1,by rw[AE,hlen]⟩,q⟩
 ·obtain⟨its,r',pl,hz⟩:=I.tuple hq
  have hlen:=r'.length
  exact len_tuple pl (by simp only[AE]<;>lia) ⟨.int ys.length,H,I.tok _,⟨s.toks+1,by rw[AE,hlen]⟩,q⟩
theorem nv:bx X (.type "list") (fun xs H Q=>∃p ys,xs=[.ref p]∧(SqL X.K H p ys∨SqT X.K H p ys)∧∀l,H l=none→Q (.ref l) (upd H l (.lst ys))):=by
 intro pins s σ H xs us Q I r h
 obtain⟨p,ys,rfl,hq,q⟩:=h
 obtain⟨u,rfl,rx⟩:=vals1 r
 cases rx
 have fin:∀(its:List Value),a9 ys its→ys.length≤sizeLine→∀(h':Heap) (c':Nat),(∀b o',s.heap.get? b=some o'→h'.get? b=some o') →
   h'.get? s.heap.objs.size=some {cls:=.type "list",dict:=none,data:=.seq its.toArray c',slots:=#[]}→EP X pins σ Q (.ref s.heap.objs.size) {s with heap:=h'}:=fun its r' hz h' c' kp e =>
  ⟨.ref s.heap.objs.size,_,I.laid (t':=s.toks) kp (AL _) (show dy X.prog X.w _ h' _ (.lst ys)from⟨hz,its,c',r',e⟩),rfl,q _ (I.hok.fresh (AL _))⟩
 rcases hq with hq | hq
 ·obtain⟨its,r',pl,hz⟩:=I.list hq
  have hlen:=r'.length
  obtain⟨o,ho,hc,n,hd⟩:=pl.isList
  exact call_list_seq p (.inl rfl) ho hc hd (fun h' c' kp e=>fin its r' hz h' c' kp e) (by simp only[AE]<;>lia)
 ·obtain⟨its,r',pl,hz⟩:=I.tuple hq
  have hlen:=r'.length
  obtain⟨o,ho,hc,n,hd⟩:=pl
  exact call_list_seq p (.inr rfl) ho hc hd (fun h' c' kp e=>fin its r' hz h' c' kp e) (by simp only[AE]<;>lia)
theorem k6:bx X (.type "tuple") (fun xs H Q=>∃p ys,xs=[.ref p]∧((SqL X.K H p ys∧∀l,H l=none→Q (.ref l) (upd H l (.tup ys)))∨(SqT X.K H p ys∧Q (.ref p) H))):=by
 intro pins s σ H xs us Q I r h
 obtain⟨p,ys,rfl,h⟩:=h
 obtain⟨u,rfl,rx⟩:=vals1 r
 cases rx
 rcases h with⟨hq,q⟩ | ⟨hq,q⟩
 ·obtain⟨its,r',pl,hz⟩:=I.list hq
  have hlen:=r'.length
  refine call_tuple_list pl.isList (fun h' kp=>?_) (by simp only[AE]<;>lia)
  have I1:Inv X pins σ H {s with heap:=h'}:=I.kept (t':=s.toks) kp
  have I2:Inv X pins σ (upd H h'.objs.size (.tup ys)) {s with heap:=h'.push {cls:=.type "tuple",data:=.seq its.toArray}} :=
   I1.laid (t':=s.toks) (fun b o e=>AB _ e) (AL _) (show dy X.prog X.w _ _ _ (.tup ys)from⟨hz,its,r',ij.new _ _⟩)
  exact⟨.ref h'.objs.size,_,I2,rfl,q _ (I1.hok.fresh (AL _))⟩
 ·obtain⟨its,r',pl,hz⟩:=I.tuple hq
  exact call_tuple_same pl ⟨.ref p,H,I,rfl,q⟩
noncomputable def tyV (K:PySem.W.Frag) (T:String) (x:V) (H:Hp):Prop:=match x with
 | .str _=>T="str"
 | .int _=>T="int"
 | .ref p=>(T="list"∧∃xs,SqL K H p xs)∨(T="tuple"∧∃o,K.lookup p=some o∧o.cls=.type "tuple"∧o.dict=none) ∨
   (T="dict"∧((∃kvs,H p=some (.dK kvs))∨∃kvs,H p=some (.dT kvs)))∨(T="set"∧∃S n,H p=some (.set S n))
 | _=>False
theorem E4 {pins:List (Addr×Obj)} {σ:St} {H:Hp} {s:Shared} {T:String} {x:V} {v:Value} (I:Inv X pins σ H s) (r:RelV x v) (ty:tyV X.K T x H) :
  s.TypeIs v T∧∀a,v=.ref a→∃ob,s.heap.get? a=some ob∧ob.dict=none:=by
 cases x with
 | str z =>
  obtain⟨t,rfl⟩:=r
  cases(show T="str" from ty)
  exact⟨typeIs_str s z t,fun _ e=>nomatch e⟩
 | int i =>
  obtain⟨t,rfl⟩:=r
  cases(show T="int" from ty)
  exact⟨typeIs_int s i t,fun _ e=>nomatch e⟩
 | ref p =>
  cases r
  rcases ty with⟨rfl,xs,hq⟩ | ⟨rfl,o,hk,hc,hd⟩ | ⟨rfl,hk⟩ | ⟨rfl,S,n,hk⟩
  ·obtain⟨its,_,pl,_⟩:=I.list hq
   refine⟨pl.isList.typeIs,fun a e=>?_⟩
   cases e
   obtain⟨o,n,e,c,hd,_⟩:=pl
   exact⟨o,e,hd⟩
  ·refine⟨⟨o,I.kIn p o hk,hc⟩,fun a e=>?_⟩
   cases e
   exact⟨o,I.kIn _ o hk,hd⟩
  ·have z:∃o,s.heap.get? p=some o∧o.ExactDict:=by
    rcases hk with⟨kvs,hk⟩ | ⟨kvs,hk⟩
    ·obtain⟨_,_,_,_,o,_,_,e,ex,_⟩:=I.hok p _ hk
     exact⟨o,e,ex⟩
    ·obtain⟨_,_,_,_,o,_,_,e,ex,_⟩:=I.hok p _ hk
     exact⟨o,e,ex⟩
   obtain⟨o,e,ex⟩:=z
   refine⟨⟨o,e,ex.1⟩,fun a e2=>?_⟩
   cases e2
   exact⟨o,e,ex.2.1⟩
  ·obtain⟨o,_,_,_,e,ex,_⟩:=I.hok p _ hk
   refine⟨⟨o,e,ex.1⟩,fun a e2=>?_⟩
   cases e2
   exact⟨o,e,ex.2.1⟩
 | _=>exact False.elim ty
noncomputable def tBM (K:PySem.W.Frag) (T:String) (r:V→List V→Hp→VK→Prop) (to:TE) (t:TA):TE:=fun σ H Q=>to σ H fun x H1=>tyV K T x H1∧t σ H1 fun xs H2=>r x xs H2 Q
variable {o e : Expr} {es : List Expr} {to : TE} {t : TA} {name : Str} {apos cpos : Pos} {T id : String} {r : V → List V → Hp → VK → Prop}
theorem E5 (pa:PlainAttrs T) (slot:Slot T name id) (hty:typeOf (.builtin id)=pure (.type "method_descriptor")) (hm:MtR X id r) (ho:PE X o to) (ha:PA X (e::es) t)
  (hbase:attributeBase o name X.env (eval o X.env)=eval o X.env:=by rfl)
  (hfew:((backTo cpos (starEach (e::es) X.env)).all (fun x=>!x.1)&&(backToKw cpos (keywordEach [] X.env)).all (fun x=>x.1.isSome)
   && decide ((e::es).length+([]:List Keyword).length+(if([]:List Keyword).isEmpty then 0 else 1)<30))=true:=by rfl)
  (hline:(apos.endLine==cpos.line)=true:=by rfl) (hs:starEach (e::es) X.env=(false,eval e X.env)::starEach es X.env:=by rfl) (hplain:(backTo cpos (starEach es X.env)).any (·.1)=false:=by rfl) :
  PE X (.Call (.Attribute o name apos) (e::es) [] cpos) (tBM X.K T r to t):=by
 intro pins s σ H Q I h
 refine wpAny_Call_method_late hbase hfew hline rfl (thn (ho pins s σ H _ I h) fun v s1 ⟨x,H1,I1,r1,ty,q1⟩=>?_)
 obtain⟨h1,h2⟩:=E4 I1 r1 ty
 refine⟨T,id,pa,slot,hty,h1,h2,?_⟩
 have hA:=ha cpos pins s1 σ H1 _ I1 q1
 rw[hs]at hA ⊢
 refine Calls.callWith_builtin (by show(false || (backTo cpos (starEach es X.env)).any (·.1))=false;rw[hplain]<;>rfl) (Calls.evalArgs_plain ?_)
 exact thn hA fun us s2 ⟨vs,H2,I2,r2,q2⟩=>hm pins s2 σ H2 x vs v us Q I2 r1 r2 q2
end
end L2
namespace L2
open PySem PySem.Spec PyProof.Rows
noncomputable def MtM (X:Cx) (id:String) (r:V→List V→Hp→VK→Prop):Prop :=
 ∀(pins:List (Addr×Obj)) (s:Shared) (σ:St) (H:Hp) (x:V) (xs:List V) (v:Value) (us:List Value) (Q:VK),Inv X pins σ H s→RelV x v→a9 xs us→r x xs H Q →
  wpAny (model X.prog X.w) X.A (call (.builtin id) (v::us)) (EP X pins σ Q) X.xe s
theorem a9.one:∀{x:V} {us:List Value},a9 [x] us→∃u,us=[u]∧RelV x u
 | _,_,.cons r .nil=>⟨_,rfl,r⟩
theorem a9.rep {xs:List V} {us:List Value} (h:a9 xs us):∀k:Nat,a9 (List.replicate k xs).flatten (List.replicate k us).flatten
 | 0=>.nil
 | k+1=>by
  rw[CL,CL,DR,DR]
  exact a9.append h (a9.rep h k)
theorem foldl_rep (its:List Value):∀(k:Nat) (acc:List Value),
  List.foldl (fun x1 x2=>x1++x2) acc.toArray (List.replicate k its.toArray)=(acc++(List.replicate k its).flatten).toArray
 | 0,acc=>by simp
 | k+1,acc=>by
  have e:acc.toArray++its.toArray=(acc++its).toArray:=by simp
  have e2:(acc++its)++(List.replicate k its).flatten=acc++(List.replicate (k+1) its).flatten:=by
   rw[CL,DR,List.append_assoc]
  rw[←e2,←foldl_rep its k (acc++its),←e,CL,BR]
section
variable {X : Cx} {pins : List (Addr × Obj)} {σ : St} {H : Hp} {s : Shared} {l b : Addr} {xs ys zs : List V}
theorem Inv.lset {its its':List Value} {n:Nat} {f:Array Value→Array Value} {t':Nat} (I:Inv X pins σ H s) (hH:H l=some (.lst xs))
  (e:s.heap.get? l=some {cls:=.type "list",data:=.seq its.toArray n}) (hf:f its.toArray=its'.toArray) (hv:a9 ys its') (hz:ys.length≤sizeLine) :
  Inv X pins σ (upd H l (.lst ys)) {s with heap:=s.heap.update l (Obj.mapSeq f),toks:=t'}:=by
 have q:=PySem.IsL.update e f
 rw[hf]at q
 refine I.write (x:=l) (e:=l) (by rw[hH];exact trivial) (.inl rfl) (fun b' u hb hu=>(Heap.get?_update_other s.heap (Obj.mapSeq f) (Ne.symm hb)).trans hu) ⟨_,q⟩ ?_
 exact⟨hz,its',_,hv,q⟩
theorem Inv.lnew {its:List Value} {t':Nat} (I:Inv X pins σ H s) (hv:a9 ys its) (hz:ys.length≤sizeLine) :
  Inv X pins σ (upd H s.heap.objs.size (.lst ys)) {s with heap:=s.heap.push {cls:=.type "list",data:=.seq its.toArray},toks:=t'} :=
 I.laid (fun _ _ q=>AB _ q) (AL _) ⟨hz,its,0,hv,AG _ rfl⟩
theorem Inv.fresh (I:Inv X pins σ H s):H s.heap.objs.size=none:=I.hok.fresh (AL _)
theorem Inv.lstM (I:Inv X pins σ H s) (hH:H l=some (.lst xs)):xs.length≤sizeLine∧∃(its:List Value) (n:Nat),a9 xs its∧xs.length=its.length∧s.heap.get? l=some {cls:=.type "list",data:=.seq its.toArray n}:=by
 obtain⟨z,its,n,r,e⟩:=I.hok l _ hH
 exact⟨z,its,n,r,r.length,e⟩
theorem zr {n:Nat} (h:n≤sizeLine):Builtin.List.listTooLong n=false:=by
 unfold Builtin.List.listTooLong
 exact decide_eq_false (by lia)
end
section
variable {X : Cx}
noncomputable def rAppend:V→List V→Hp→VK→Prop:=fun x vs H Q=>∃l xs y,x=.ref l∧vs=[y]∧H l=some (.lst xs)∧xs.length<sizeLine∧Q .non (upd H l (.lst (xs++[y])))
theorem vt:MtM X "list.append" rAppend:=by
 intro pins s σ H x vs v us Q I rx rv h
 obtain⟨l,xs,y,rfl,rfl,hH,hz,q⟩:=h
 cases rx
 obtain⟨u,rfl,ru⟩:=rv.one
 obtain⟨z,its,n,r,hl,e⟩:=I.lstM hH
 refine GG F.slot_list_append ⟨_,e,rfl⟩ F.entry_list_append (F.args_list_append_2 _ _) (PySem.list_append l its.toArray n u (by rw[AE];lia)) ⟨e,?_⟩
 refine⟨.non,_,I.lset (its':=its++[u]) hH e (by simp) (r.append (.cons ru .nil)) ?_,rfl,q⟩
 rw[CH,GQ]
 lia
theorem len_rep {α:Type} (xs:List α) (k:Nat):(List.replicate k xs).flatten.length=k*xs.length:=by
 induction k with
 | zero=>simp
 | succ k ih=>rw[CL,DR,CH,ih,Nat.succ_mul,Nat.add_comm]
end
end L2
namespace L2
open PySem PySem.Spec PyProof.Rows
section
variable {κ : Type} [DecidableEq κ]
noncomputable def tw (kvs:List (κ×V)) (k:κ):Option V:=(kvs.find? fun kv=>decide (kv.1=k)).map (·.2)
noncomputable def putK (kvs:List (κ×V)) (k:κ) (v:V):List (κ×V) :=
 if(kvs.any fun kv=>decide (kv.1=k))=true then kvs.map (fun kv=>if kv.1=k then(kv.1,v)else kv)else kvs++[(k,v)]
theorem k9 {p:κ×V} {r:List (κ×V)} {k:κ} (e:p.1=k):tw (p::r) k=some p.2:=by simp[tw,DJ,e]
theorem lb {p:κ×V} {r:List (κ×V)} {k:κ} (e:¬p.1=k):tw (p::r) k=tw r k:=by simp[tw,DJ,e]
theorem D0.isSome_eq {o:Option V} {u:Option Value} (r:D0 o u):o.isSome=u.isSome:=by
 cases o with
 | none=>cases u with
  | none=>rfl
  | some _=>exact(show False from r).elim
 | some _=>cases u with
  | none=>exact(show False from r).elim
  | some _=>rfl
theorem KV.val {kvs:List (κ×V)} {vs:List (κ×Value)} (r:KV kvs vs) (k:κ):D0 (tw kvs k) (valueAt vs k):=by
 unfold KV at r
 induction r with
 | nil=>exact True.intro
 | @cons p q ps qs h t ih =>
  obtain⟨h1,h2⟩:=h
  by_cases e:p.1=k
  ·have e':q.1=k:=h1.symm.trans e
   have b:valueAt (q::qs) k=some q.2:=by simp[valueAt,DJ,e']
   rw[k9 e,b];exact h2
  ·have e':¬q.1=k:=fun z=>e (h1.trans z)
   have b:valueAt (q::qs) k=valueAt qs k:=by simp[valueAt,DJ,e']
   rw[lb e,b];exact ih
theorem KV.any {kvs:List (κ×V)} {vs:List (κ×Value)} (r:KV kvs vs) (k:κ):(kvs.any fun kv=>decide (kv.1=k))=vs.any fun kv=>decide (kv.1=k):=by
 unfold KV at r
 induction r with
 | nil=>rfl
 | cons h t ih=>rw[CQ,CQ,ih,h.1]
theorem KV.repl {kvs:List (κ×V)} {vs:List (κ×Value)} (r:KV kvs vs) (k:κ) {y:V} {u:Value} (ry:RelV y u) :
  KV (kvs.map fun kv=>if kv.1=k then(kv.1,y)else kv) (vs.map fun kv=>if kv.1=k then(kv.1,u)else kv):=by
 unfold KV at r ⊢
 induction r with
 | nil=>exact .nil
 | @cons p q ps qs h t ih =>
  rw[AZ,AZ]
  refine .cons ?_ ih
  obtain⟨h1,h2⟩:=h
  by_cases e:p.1=k
  ·rw[if_pos e,if_pos (h1.symm.trans e)];exact⟨h1,ry⟩
  ·rw[if_neg e,if_neg (fun z=>e (h1.trans z))];exact⟨h1,h2⟩
theorem KV.put {kvs:List (κ×V)} {vs:List (κ×Value)} (r:KV kvs vs) (k:κ) {y:V} {u:Value} (ry:RelV y u):KV (putK kvs k y) (stored vs k u):=by
 unfold putK stored
 rw[r.any k]
 by_cases e:(vs.any fun kv=>decide (kv.1=k))=true
 ·rw[if_pos e,if_pos e];exact r.repl k ry
 ·rw[if_neg e,if_neg e];exact Paired.snoc r ⟨rfl,ry⟩
theorem KV.length {kvs:List (κ×V)} {vs:List (κ×Value)} (r:KV kvs vs):kvs.length=vs.length:=DL r
end
theorem zt {P:Program} {w:World} {k:Key} {u:Value} (r:RelV (kV k) u):(bz P w).is k u=true:=by
 cases k with
 | inl i=>obtain⟨t,e⟩:=(show ∃t,u=Value.int i t from r);subst e;exact pj P w i t
 | inr x=>obtain⟨t,e⟩:=(show ∃t,u=Value.str x t from r);subst e;exact pk P w x t
theorem ny {P:Program} {w:World}:∀{ks:List Key} {us:List Value},a9 (ks.map kV) us→ItemsAre (bz P w) ks us
 | [],_,r=>by rw[EL]at r;cases r;exact .nil
 | k::ks,_,r=>by
  rw[AZ]at r
  cases r with
  | cons h t=>exact .cons (zt h) (ny t)
noncomputable abbrev KT (H:Hp):List (List Key×V)→List (List Key×Addr×Value)→Prop:=Paired fun p q=>p.1=q.1∧H q.2.1=some (.tup (p.1.map kV))∧RelV p.2 q.2.2
theorem KT.val {H:Hp} {kvs:List (List Key×V)} {xs:List (List Key×Addr×Value)} (r:KT H kvs xs) (k:List Key):D0 (tw kvs k) ((atKey xs k).map (·.2)):=by
 induction r with
 | nil=>exact True.intro
 | @cons p q ps qs h t ih =>
  obtain⟨h1,_,h2⟩:=h
  by_cases e:p.1=k
  ·have e':q.1=k:=h1.symm.trans e
   have b:atKey (q::qs) k=some q.2:=by simp[atKey,DJ,e']
   rw[k9 e,b];exact h2
  ·have e':¬q.1=k:=fun z=>e (h1.trans z)
   have b:atKey (q::qs) k=atKey qs k:=by simp[atKey,DJ,e']
   rw[lb e,b];exact ih
section
variable {P : Program} {w : World} {H : Hp} {h : Heap} {a : Addr}
theorem E6 {u:HO} (ok:HOk P w H h) (e:Rd H a u):dy P w H h a u:=e.ok ok
theorem E7 {kvs:List (Key×V)} (ok:HOk P w H h) (e:Rd H a (.dK kvs)):kvs.length≤sizeLine∧(a==sysModules)=false∧∃vs,KV kvs vs∧h.DictOf (bz P w) a vs :=
 show dy P w H h a (.dK kvs)from E6 ok e
theorem vv {ks:List Key} (ok:HOk P w H h) (e:H a=some (.tup (ks.map kV))):(tupleKind (bz P w)).is h ks a:=by
 obtain⟨_,its,r,o,h1,h2,_,n,h3⟩:=(show dy P w H h a (.tup (ks.map kV))from ok a _ e)
 exact⟨o,its.toArray,n,h1,h2,h3,by simpa using ny r⟩
theorem E8 {kvs:List (List Key×V)} (ok:HOk P w H h) (e:Rd H a (.dT kvs)):kvs.length≤sizeLine∧(a==sysModules)=false ∧
  ∃xs,KT H kvs xs∧h.DictOfH (tupleKind (bz P w)) a xs:=by
 obtain⟨z,y,xs,r,o,es,ep,h1,h2,h3,h4,h5⟩:=(show dy P w H h a (.dT kvs)from E6 ok e)
 refine⟨z,y,xs,r,o,es,ep,h1,h2,h3,h4,fun x hx=>?_,h5⟩
 have all:∀{l:List (List Key×V)} {m:List (List Key×Addr×Value)},KT H l m→∀x∈m,(tupleKind (bz P w)).is h x.1 x.2.1:=by
  intro l m q
  induction q with
  | nil=>intro x hx;exact nomatch hx
  | @cons p q ps qs hq t ih =>
   intro x hx
   rcases AJ.mp hx with e | hx
   ·subst e
    exact vv ok (by rw[←hq.1];exact hq.2.1)
   ·exact ih x hx
 exact all r x hx
end
noncomputable def D1 (H:Hp) (a:Addr) (y:V) (r:Option V):Prop :=
 (∃kvs k,Rd H a (.dK kvs)∧y=kV k∧r=tw kvs k)∨∃kvs k b,Rd H a (.dT kvs)∧y=.ref b∧H b=some (.tup (k.map kV))∧r=tw kvs k
theorem D1.k {H:Hp} {a:Addr} {kvs:List (Key×V)} {k:Key} (e:H a=some (.dK kvs)):D1 H a (kV k) (tw kvs k):=.inl ⟨kvs,k,.inl e,rfl,rfl⟩
section
variable {X : Cx} {pins : List (Addr × Obj)} {σ : St} {H : Hp} {s : Shared} {a : Addr} {y v : V} {u r : Value} {o : Option V} {A : Around} {E : Value → Shared → Prop}
theorem Inv.big (I:Inv X pins σ H s):sysModules<s.heap.objs.size:=by
 have h:mainGlobals<s.heap.objs.size:=(I.mod.glob.keeps I.bk).lt
 exact Nat.lt_trans (by decide) h
theorem Ng {Q:Value→Shared→Prop} (hu:A.units+1<cLine) (I:Inv X pins σ H s) (g:D1 H a y o) (ry:RelV y u) (h:∀s',Inv X pins σ H s'→Q (.bool o.isSome) s') :
  wpAny (model X.prog X.w) A (compareOp .In u (.ref a)) Q E s:=by
 rcases g with⟨kvs,k,e,ey,l⟩ | ⟨kvs,k,b,e,ey,eb,l⟩
 ·subst ey
  obtain⟨z,hd,vs,rel,dd⟩:=E7 I.hok e
  refine wpAny_in_of (zt ry) hd dd.mapOf ?_
  rw[←(rel.val k).isSome_eq,←l]
  exact h _ (I.tok _)
 ·subst ey
  cases(show u=Value.ref b from ry)
  obtain⟨z,hd,xs,rel,dd⟩:=E8 I.hok e
  refine wpAny_in_heap (tupleKind_room_in1 hu) (vv I.hok eb) hd dd ?_
  have q:=(rel.val k).isSome_eq
  rw[Option.isSome_map]at q
  rw[←q,←l]
  exact h _ (I.tok _)
theorem Ci {Q:Value→Shared→Prop} (hu:A.units+1<cLine) (I:Inv X pins σ H s) (g:D1 H a y o) (ry:RelV y u) (h:∀s',Inv X pins σ H s'→Q (.bool (!o.isSome)) s') :
  wpAny (model X.prog X.w) A (compareOp .NotIn u (.ref a)) Q E s:=by
 rcases g with⟨kvs,k,e,ey,l⟩ | ⟨kvs,k,b,e,ey,eb,l⟩
 ·subst ey
  obtain⟨z,hd,vs,rel,dd⟩:=E7 I.hok e
  refine wpAny_notIn_of (zt ry) hd dd.mapOf ?_
  rw[←(rel.val k).isSome_eq,←l]
  exact h _ (I.tok _)
 ·subst ey
  cases(show u=Value.ref b from ry)
  obtain⟨z,hd,xs,rel,dd⟩:=E8 I.hok e
  refine wpAny_notIn_heap (tupleKind_room_in1 hu) (vv I.hok eb) hd dd ?_
  have q:=(rel.val k).isSome_eq
  rw[Option.isSome_map]at q
  rw[←q,←l]
  exact h _ (I.tok _)
theorem E9 {P:Program} {w:World} {H':Hp} {h':Heap} {kvs:List (Key×V)} {vs:List (Key×Value)} (z:kvs.length≤sizeLine) (hd:(a==sysModules)=false) (rel:KV kvs vs) (dd:h'.DictOf (bz P w) a vs) :
  dy P w H' h' a (.dK kvs):=⟨z,hd,vs,rel,dd⟩
end
noncomputable def IsD (H:Hp) (a:Addr):Prop:=(∃kvs,Rd H a (.dK kvs))∨∃kvs,Rd H a (.dT kvs)
end L2
namespace Att
open PySem PySem.W PySem.Calls PyProof.Rows
theorem i9 {P:Params} {h:Heap}:∀(ns:List Int) (vs:List Value),WellAll P h vs (ns.map WData.int)→IntsAre vs ns:=by
 intro ns
 induction ns with
 | nil =>
  intro vs w
  rw[EL]at w
  cases w
  exact .nil
 | cons n ns ih =>
  intro vs w
  rw[AZ]at w
  cases w with
  | cons a b =>
   cases a
   exact .cons _ _ (ih _ b)
theorem vw {l:OpenLaw} {n:Nat} (hn:l.most=some n) {P:Params} {h:Heap} {args:List WData} {vals:List Value}
  (hpre:l.row.toRowW.claim.pre args=true) (hwl:WellAll P h vals args) :
  ∃a vs ns,vals=[Value.ref a]∧args=[WData.list (ns.map WData.int)]∧h.get? a=some {cls:=.type "list",data:=.seq vs.toArray}∧IntsAre vs ns∧ns.length≤n:=by
 have hsh:WShape.hasAll [] args [.list .int]=true:=(pre_splitW hpre).1
 have hc:l.pre.holds [] {args:=args}=true:=(pre_splitW hpre).2
 obtain⟨d,r,rfl,h1,h2⟩:=hasAllW_cons hsh
 obtain rfl:=hasAllW_nil h2
 obtain⟨xs,rfl,h3⟩:=hasW_list h1
 obtain⟨ns,rfl⟩:=items_int h3
 have hlen:ns.length≤n:=by
  unfold OpenLaw.pre at hc
  have h4:(WTm.not (.lt (.lit (.int (n:Int))) (.len (.arg 0)))).holds [] {args:=[.list (ns.map .int)]}=true:=by
   have h4:=(holds_andW hc).1
   rw[hn]at h4
   exact h4
  have h5:=condW_of h4 (w_not (w_lt w_lit (w_len_list (w_arg rfl))))
  rw[AV]at h5
  refine Nat.le_of_not_lt fun q=>?_
  have q':(n:Int)<((ns.length:Nat):Int):=by lia
  first
   | (rw[decide_eq_true q']at h5;exact absurd h5 (by decide))
   | (simp at h5;lia)
 cases hwl with
 | cons w1 w2 =>
  cases w2
  cases w1 with
  | list ho hall=>exact⟨_,_,ns,rfl,rfl,ho,i9 ns _ hall,hlen⟩
theorem vx (l:OpenLaw) (args:List WData):l.row.toRowW.claim.post args (.bool true) args=true :=
 postW_of (r:=l.row.toRowW) (X:=(true==true))
  (show WShape.has [] (.bool true) .bool=true by first | rfl | decide | simp[WShape.has,WShape.arms,WShape.armsAll])
  (show(WTm.eq .res (.lit (.bool true))).value [] {args:=args,res:=some (.bool true),after:=args}=some (.bool (true==true))from w_eq_bool (w_res rfl) w_lit) rfl
theorem p9 {l:OpenLaw} {n:Nat} {q:Program} {loose:List Str} {XP:(Str→Option Value)→Heap→Prop} {YP:World→Heap→Prop} {d:DefRec}
  (hn:l.most=some n) (hdf:d.params.defaults=[])
  (call:∀(w:World) (s₀ s₁:Shared) (mg mb:Str→Option Value) (fa:Addr) (o:Obj) (pm cd doc:Value) (a:Addr) (vs:List Value) (ns:List Int),
   Ground q loose [] XP w s₀ mg mb s₁.heap→YP w s₁.heap →
   s₁.heap.get? fa=some o→o.data=.func (docDef d.name d.params d.body d.scope pm cd doc)→s₁.heap.CodeRec cd d.name→mg d.name=some (.ref fa) →
   s₁.heap.get? a=some {cls:=.type "list",data:=.seq vs.toArray}→IntsAre vs ns→ns.length≤n→s₁.gens=#[] →
   codeAny (model l.prog w) callerA (.call (.ref fa) ⟨[.ref a],[]⟩) (fun r s'=>r=.ok (.ret (.bool true))∧OldK s₁.heap s'.heap∧s'.os=s₁.os∧AllBare s'.gens) s₁) :
  WalkO q loose XP YP l.row.toRowW d [] (fun f vs=>PySem.call f vs):=by
 intro w s₀ s₁ mg mb G Y fa o pm cd doc dV kV ho hd hcd hD hmg hg args vals as hpre hlay hrd hwl hlo
 obtain rfl:dV=.none:=Dflts.none hD hdf
 obtain rfl:kV=.none:=Dflts.noKw hD
 obtain⟨a,vs,ns,rfl,rfl,hobj,hints,hlen⟩:=vw hn hpre hwl
 refine enter_call (DE (call w s₀ s₁ mg mb fa o pm cd doc a vs ns G Y ho (fd_plain hd) hcd hmg hobj hints hlen hg) fun r s' hq=>?_)
 obtain⟨rfl,h2,h3,h4⟩:=hq
 exact⟨.inl ⟨.bool true,.bool true,[],rfl,fun _=>rfl,.bool true,vx l _,fun _=>⟨List.Pairwise.nil,fun _ hm=>(nomatch hm)⟩⟩,h2,h3,h4⟩
end Att
namespace L2
open PySem PySem.Spec PyProof.Rows
noncomputable def FzL (K:PySem.W.Frag) (H:Hp) (a:Addr) (xs:List V):Prop :=
 (∃o,H a=some (.frz o (.lst xs))) ∨
  ∃(its:List Value) (n:Nat),K.lookup a=some {cls:=.type "list",data:=.seq its.toArray n}∧xs.length≤sizeLine∧a9 xs its
theorem vals_ints:∀{vs:List Value} {ns:List Int},IntsAre vs ns→a9 (ns.map V.int) vs
 | _,_,.nil=>.nil
 | _,_,.cons n t h=>.cons ⟨t,rfl⟩ (vals_ints h)
noncomputable def Ih (H:Hp):Prop:=∀b,H b=none∨∃o xs,H b=some (.frz o (.lst xs))
theorem zu {P:Program} {w:World} {K:PySem.W.Frag} {mg mb:Str→Option Value} {CX:CXT} {k:Nat} {fa a:Addr} {fd:FuncData} {x:Str} {sp:Sp} {s₁:Shared} {vs:List Value} {ns:List Int}
  (KX:K.In s₁.heap) (hns:s₁.heap.Ns mainGlobals mg) (hb:s₁.heap.Ns builtinsNs mb) (hbb:∀x:Str,x≠"__name__"→mb x=bootBuiltins x) (hlim:s₁.heap.NoLimit) (hg:s₁.gens=#[])
  (ha:s₁.heap.get? a=some {cls:=.type "list",data:=.seq vs.toArray}) (hi:IntsAre vs ns) (hl:ns.length≤sizeLine) (hr:Room k callerA)
  (F:∀base:Heap,K.In base→base.Ns mainGlobals mg→FnOk P w K mg base CX k fa fd [x] sp) (hbind:∀(s:Shared) (u:Value),BindsTo s fd ⟨[u],[]⟩ [(x,u)])
  (hsp:∀H:Hp,Ih H→FzL K H a (ns.map V.int)→sp [.ref a] H (fun v _=>v=.bl true) fun _ _ _=>False)
  (hCX:∀H e s',CX [] H s₁ (fun _ _ _=>False) e s'→False) :
  codeAny (model P w) callerA (.call (.ref fa) ⟨[.ref a],[]⟩) (fun r s'=>r=.ok (.ret (.bool true))∧OldK s₁.heap s'.heap∧s'.os=s₁.os∧AllBare s'.gens) s₁:=by
 have rv:=vals_ints hi
 have lenV:=hi.length
 -- from an abstract heap in which nothing but the script may be tracked
 have core:∀H:Hp,Ih H→FzL K H a (ns.map V.int)→HOk P w H s₁.heap→(∀b,H b≠none→b=a)→(H a≠none→K.lookup a=none) →
   codeAny (model P w) callerA (.call (.ref fa) ⟨[.ref a],[]⟩) (fun r s'=>r=.ok (.ret (.bool true))∧OldK s₁.heap s'.heap∧s'.os=s₁.os∧AllBare s'.gens) s₁:=by
  intro H hO hS hok hA hK
  have base_of:∀{b:Addr} {o:Obj},s₁.heap.get? b=some o→H b=none→(zh s₁.heap H).get? b=some o:=fun e n=>zi e n
  have noA:∀{b:Addr} {o:Obj} {es:Array DictEntry} {ep:Nat},s₁.heap.get? b=some o→o.data=.dict es ep→H b=none:=fun {b o es ep} e d=>by
   cases q:H b with
   | none=>rfl
   | some u =>
    have e':b=a:=hA b (by rw[q];simp)
    subst e'
    rw[ha]at e;cases e
    have d':Data.seq vs.toArray _=Data.dict es ep:=d
    cases d'
  have nsK:∀{b:Addr} {m:Str→Option Value},s₁.heap.Ns b m→(zh s₁.heap H).Ns b m:=fun {b m} ⟨o,es,ep,e,d,r⟩=>⟨o,es,ep,base_of e (noA e d),d,r⟩
  have hKb:K.In (zh s₁.heap H):=fun b o e=>base_of (KX b o e) (by
   cases q:H b with
   | none=>rfl
   | some u =>
    have e':b=a:=hA b (by rw[q];simp)
    subst e'
    rw[hK (by rw[q];simp)]at e;cases e)
  have hM:Mod K mg (zh s₁.heap H):=⟨hKb,nsK hns,⟨mb,nsK hb,hbb⟩,let ⟨mc,h1,h2⟩:=hlim;⟨mc,nsK h1,h2⟩⟩
  have e0:Env0 P w K mg (zh s₁.heap H) callerA [] s₁ H:=⟨rfl,hM,fun b o e=>Bv e,Nat.le_of_eq (vd _ _),trivial,fun b hb=>absurd (show b∈([]:List Addr)from hb) (by simp),hok,.of_eq hg⟩
  refine DE ((F _ hKb (nsK hns)).run callerA [] s₁ H ⟨[.ref a],[]⟩ [.ref a] [.ref a] _ _ hr e0 (hbind s₁ (.ref a)) (.cons rfl .nil) (hsp H hO hS)) fun r s' h=>?_
  cases r with
  | error e=>exact(hCX H e s' h).elim
  | ok fl =>
   cases fl with
   | next=>exact False.elim h
   | brk=>exact False.elim h
   | cont=>exact False.elim h
   | ret u =>
    obtain⟨v,H',os,bare,un,hok',r',q⟩:=h
    have q':v=.bl true:=q
    subst q'
    obtain rfl:u=Value.bool true:=r'
    refine⟨rfl,OldK.of_keep fun b o e=>?_,os,bare⟩
    cases q:H b with
    | none=>exact un.keep b o e q (by intro z;exact absurd (show b∈([]:List Addr)from z) (by simp)) (by simp)
    | some u =>
     rcases hO b with z | ⟨ob,xs,z⟩
     ·rw[q]at z;cases z
     ·have z2:=un.frzs b ob _ z
      obtain⟨e1,_⟩:=hok b _ z
      obtain⟨e2,_⟩:=hok' b _ z2
      rw[e]at e1;cases e1
      exact e2
 cases hk:K.lookup a with
 | some o =>
  -- the script is one of the module's own objects
  have e:=KX a o hk
  rw[ha]at e
  cases e
  refine core (fun _=>none) (fun _=>.inl rfl) (.inr ⟨vs,_,hk,by rw[AV];exact hl,rv⟩) (fun b u z=>by have z':(none:Option HO)=some u:=z;cases z') (fun b z=>absurd rfl z) fun z=>absurd rfl z
 | none =>
  refine core (fun b=>if b=a then some (.frz {cls:=.type "list",data:=.seq vs.toArray} (.lst (ns.map V.int)))else none) (fun b=>?_) (.inl ⟨{cls:=.type "list",data:=.seq vs.toArray},if_pos rfl⟩) (fun b u z=>?_) (fun b z=>?_) fun _=>hk
  ·by_cases hb:b=a
   ·exact .inr ⟨_,_,if_pos hb⟩
   ·exact .inl (if_neg hb)
  ·by_cases hb:b=a
   ·have z':=(if_pos hb).symm.trans z
    cases z'
    subst hb
    exact⟨ha,by rw[AV];exact hl,vs,_,rv,ha⟩
   ·have z':=(if_neg hb).symm.trans z
    cases z'
  ·by_cases hb:b=a
   ·exact hb
   ·exact absurd (if_neg hb) z
end L2
namespace L2
open PySem PySem.Spec PyProof.Rows
noncomputable abbrev KOf {K:PySem.W.Frag} {h:Heap} (_:K.In h):PySem.W.Frag:=K
theorem Cj {l:PySem.W.OpenLaw} {n k:Nat} {q:Program} {loose:List Str} {XP:(Str→Option Value)→Heap→Prop} {YP:World→Heap→Prop} {d:DefRec} {K:Params→PySem.W.Frag} {CX:World→CXT} {sp:World→Sp} {x:Str}
  (hn:l.most=some n) (hn2:n≤sizeLine) (hdf:d.params.defaults=[]) (hr:Room k callerA)
  (hY:∀(w:World) (h:Heap),YP w h→(K w.params).In h)
  (F:∀(w:World) (mg:Str→Option Value) (fa:Addr) (h:Heap),(K w.params).In h→h.Ns mainGlobals mg→mg d.name=some (.ref fa) →
   ∃fd:FuncData,(∀(s:Shared) (u:Value),BindsTo s fd ⟨[u],[]⟩ [(x,u)]) ∧
    ∀base:Heap,(K w.params).In base→base.Ns mainGlobals mg→FnOk l.prog w (K w.params) mg base (CX w) k fa fd [x] (sp w))
  (hsp:∀(w:World) (H:Hp) (a:Addr) (ns:List Int),ns.length≤n→Ih H→FzL (K w.params) H a (ns.map V.int)→sp w [.ref a] H (fun v _=>v=.bl true) fun _ _ _=>False)
  (hCX:∀(w:World) (H:Hp) (s:Shared) (e:Value) (s':Shared),CX w [] H s (fun _ _ _=>False) e s'→False) :
  PySem.W.WalkO q loose XP YP l.row.toRowW d [] (fun f vs=>PySem.call f vs):=by
 refine Att.p9 hn hdf fun w s₀ s₁ mg mb fa o pm cd doc a vs ns G Y ho hd hcd hmg hobj hints hlen hg=>?_
 have KX:=hY w _ Y
 obtain⟨fd,hb,hF⟩:=F w mg fa _ KX G.T.g hmg
 exact zu KX G.T.g G.T.b G.T.builtins G.T.nolimit hg hobj hints (BV hlen hn2) hr hF hb (fun H hO hS=>hsp w H a ns hlen hO hS) fun H e s'=>hCX w H s₁ e s'
end L2
namespace L2
open PySem PySem.Spec PyProof.Rows
noncomputable def bc (s:Stmt):Arguments:=match s with
 | .FunctionDef _ a _ _ _ _ _ _ _ _=>a
 | _=>{posonlyargs:=[],args:=[],vararg:=none,kwonlyargs:=[],kw_defaults:=[],kwarg:=none,defaults:=[]}
noncomputable def az (s:Stmt):List Stmt:=match s with
 | .FunctionDef _ _ b _ _ _ _ _ _ _=>b
 | _=>[]
noncomputable def ag (s:Stmt):Scope:=match s with
 | .FunctionDef _ _ _ _ _ _ sc _ _ _=>sc
 | _=>{kind:=.function,names:=[],isGenerator:=false,isCoroutine:=false}
noncomputable abbrev CX0:CXT:=fun _ _ _ _ _ _=>False
noncomputable abbrev E0:XK:=fun _ _ _=>False
theorem Ii {X:Cx}:vn CX0 X E0:=fun _ _ _ _ _ _ _ h=>h.elim
structure Fun (K:PySem.W.Frag) (x qual:Str) (st:Stmt) (f:Addr) (fd:FuncData):Prop where
 ex:∃(oc:Value) (od:Option Addr) (kV doc pm:Value) (an:Option Addr) (cdv ct:Value) (osl:Array (Option Value)),
  fd=PySem.W.fnOf x qual (bc st) (az st) (ag st) .none kV doc pm an cdv ct∧K.lookup f=some ⟨oc,od,.func fd,osl⟩∧PySem.W.codeIn K cdv qual=true
 kp:PySem.W.keepIn K (.ref f)=true
section
variable {P : Program} {w : World} {K : PySem.W.Frag} {mg : Str → Option Value} {base : Heap}
theorem Fun.ok {x qual:Str} {st:Stmt} {f:Addr} {fd:FuncData} {N ps:List Str} {k:Nat} {sp:Sp} (F:Fun K x qual st f fd) (S:FnScope N ps (ag st)) (len:∀vs H Q E,sp vs H Q E→vs.length=ps.length)
  (hbody:∀(cdv:Value) (A:Around) (outer:List Env) (s:Shared) (H:Hp) (vs:List V) (Q:VK) (E:XK),Room k (A.deeper (envOfC qual (ag st) s.heap.objs.size f cdv))→sp vs H Q E →
   ∃t,PSs (A8 CX0 P w K mg base N qual (ag st) f cdv A outer s H E).nox (az st) t∧t {nx:=fun _ H'=>Q .non H',rt:=Q} (start N vs) H):FnOk P w K mg base CX0 (k+1) f fd ps sp:=by
 obtain⟨oc,od,kV,doc,pm,an,cdv,ct,osl,rfl,lk,hcd⟩:=F.ex
 refine Ib lk hcd S len fun A outer s H vs Q E hr hsp=>?_
 obtain⟨t,h,q⟩:=hbody cdv A outer s H vs Q E hr hsp
 exact⟨t,h.nox,q⟩
theorem Fb {x qual:Str} {st:Stmt} {f:Addr} {oc:Value} {od an:Option Addr} {osl:Array (Option Value)} {kV doc pm cdv ct:Value} (l:K.lookup f=some ⟨oc,od,.func (PySem.W.fnOf x qual (bc st) (az st) (ag st) .none kV doc pm an cdv ct),osl⟩)
  (c:PySem.W.codeIn K cdv qual=true) (k:PySem.W.keepIn K (.ref f)=true):Fun K x qual st f (PySem.W.fnOf x qual (bc st) (az st) (ag st) .none kV doc pm an cdv ct):=⟨⟨oc,od,kV,doc,pm,an,cdv,ct,osl,rfl,l,c⟩,k⟩
end
theorem nz {n:Nat} (h:n≤1000):n<sizeLine:=Nat.lt_of_le_of_lt h (by decide)
section
variable {X : Cx}
theorem pv (i:Nat) {x:Str} {pos:Pos} (hN:X.N[i]? = some x:=by rfl) (hv:Vis X.env.scope x:=by first | exact Or.inl rfl | exact Or.inr (Or.inl rfl) | exact Or.inr (Or.inr rfl)) (hd:(x==("__debug__":Str))=false:=by decide)
  (hcd:(x==("__classdict__":Str))=false:=by decide):PE X (.Name x pos) (Ky i):=vf hN hv hd hcd
end
end L2
namespace Lp
open PySem
inductive D where
 | non | bl (b:Bool) | int (i:Int) | str (x:Str)
 | tup (ds:List D) | lst (ds:List D) | loc (n:Nat)
 deriving Inhabited
noncomputable def D.pureN:Nat→D→Bool
 | 0,d=>match d with | .tup _=>false | .lst _=>false | .loc _=>false | _=>true
 | k+1,d=>match d with | .tup ds=>ds.all (D.pureN k) | .lst ds=>ds.all (D.pureN k) | .loc _=>false | _=>true
noncomputable abbrev D.pure (d:D):Bool:=D.pureN 8 d
inductive O where
 | l (ds:List D)
 | r (ds:List D)
 | d (kvs:List (D×D))
 | dt (kvs:List (D×D))
 | dead
 deriving Inhabited
noncomputable abbrev Sto:=List O
noncomputable abbrev Sl:=List (Option D)
inductive Res (α:Type) where
 | ok (a:α) (μ:Sto)
 | exc (c:Nat) (ds:List D) (μ:Sto)
 | stuck
namespace Res
variable {α β : Type}
noncomputable def bind (x:Res α) (f:α→Sto→Res β):Res β:=match x with
 | .ok a μ=>f a μ
 | .exc c ds μ=>.exc c ds μ
 | .stuck=>.stuck
@[simp] theorem cg (a:α) (μ:Sto) (f:α→Sto→Res β):(Res.ok a μ).bind f=f a μ:=rfl
@[simp] theorem G4 (c:Nat) (ds:List D) (μ:Sto) (f:α→Sto→Res β):(Res.exc c ds μ:Res α).bind f=.exc c ds μ:=rfl
@[simp] theorem D2 (f:α→Sto→Res β):(Res.stuck:Res α).bind f=.stuck:=rfl
theorem bind_assoc {γ:Type} (x:Res α) (f:α→Sto→Res β) (g:β→Sto→Res γ):(x.bind f).bind g=x.bind fun a μ=>(f a μ).bind g:=by
 cases x<;>rfl
end Res
inductive Mk where | z | l | r
 deriving DecidableEq,Inhabited
inductive Bt where
 | len | tuple | list | sum | min | min1 | max | all | any | sorted | sortedSet | int | listRev | listRange | tupleRange | dictP
 deriving DecidableEq,Inhabited
inductive Mt where
 | append | pop | extend | extendT | insert | remove | reverse | clear | count | countL | get
 deriving DecidableEq,Inhabited
inductive Cl where
 | int | bool | tuple | list | str | own (c:Nat)
 deriving DecidableEq,Inhabited
inductive Tg where
 | one (i:Nat) | many (is:List Nat)
 deriving DecidableEq,Inhabited
inductive Cp where
 | eq | ne | eqM | neM | lt | le | gt | ge | is | isnot | in_ | notin
 deriving DecidableEq,Inhabited
mutual
inductive Ex where
 | var (i:Nat)
 | frz (i:Nat)
 | cst (d:D)
 | bin (op:Operator) (m:Mk) (a b:Ex)
 | neg (a:Ex)
 | not (a:Ex)
 | and (a b:Ex)
 | or (a b:Ex)
 | ite (c a b:Ex)
 | cmp (a:Ex) (r:Cps)
 | call (keep:Bool) (f:Nat) (es:Exs)
 | blt (b:Bt) (m:Mk) (es:Exs)
 | isi (a:Ex) (c:Cl)
 | meth (mt:Mt) (o:Ex) (es:Exs)
 | ix (a b:Ex)
 | dix (a b:Ex)
 | sl (m:Mk) (a:Ex) (lo hi:ExO)
 | tup (es:Exs)
 | lst (m:Mk) (es:Exs)
 | dic (t:Bool) (es:Exs)
 | inT (neg:Bool) (es:Exs) (d:Ex)
 | comp (m:Mk) (cap:List Nat) (nl:Nat) (tg:Tg) (it:It) (cs:Exs) (elt:Ex)
inductive Exs where
 | nil
 | cons (e:Ex) (es:Exs)
inductive Cps where
 | nil
 | cons (op:Cp) (e:Ex) (r:Cps)
inductive ExO where
 | no
 | so (e:Ex)
inductive It where
 | seq (e:Ex)
 | rng (a:Ex)
 | rng2 (a b:Ex)
 | rng3 (a b c:Ex)
 | zip (a b:Ex)
 | enum (a:Ex)
 | rev (a:Ex)
 | vals (a:Ex)
end
mutual
inductive Sm where
 | set (i:Nat) (e:Ex)
 | unp (is:List Nat) (e:Ex)
 | setx (o i v:Ex)
 | augx (op:Operator) (o i v:Ex)
 | setxT (o:Ex) (i:Exs) (v:Ex)
 | ex (e:Ex)
 | ite (c:Ex) (a b:Sms)
 | loop (tg:Tg) (it:It) (b:Sms)
 | ret (e:Ex)
 | raise (c:Nat) (es:Exs)
 | pass | brk | cont
 | never
inductive Sms where
 | nil
 | cons (s:Sm) (r:Sms)
end
@[irreducible] def lim:Nat:=2 ^ 24
theorem Bb:lim=2 ^ 24:=by with_unfolding_all rfl
theorem vy:1000000≤lim:=by rw[Bb];decide
noncomputable def bg (μ:Sto):D→Option (List D)
 | .tup ds=>some ds
 | .lst ds=>some ds
 | .loc n=>match μ[n]? with
  | some (.l ds)=>some ds
  | some (.r ds)=>some ds
  | _=>none
 | _=>none
noncomputable def listOf (μ:Sto):D→Option (List D)
 | .lst ds=>some ds
 | .loc n=>match μ[n]? with
  | some (.l ds)=>some ds
  | some (.r ds)=>some ds
  | _=>none
 | _=>none
noncomputable def gg {α β:Type} (o:Option α) (k:α→Res β):Res β:=match o with
 | some a=>k a
 | none=>.stuck
@[simp] theorem qb {α β:Type} (a:α) (k:α→Res β):gg (some a) k=k a:=rfl
@[simp] theorem Ck {α β:Type} (k:α→Res β):gg none k=.stuck:=rfl
noncomputable def mkL (m:Mk) (ds:List D) (μ:Sto):Res D:=match m with
 | .z=>.ok (.lst ds) μ
 | .l=>if ds.all (D.pureN 8)=true then .ok (.loc μ.length) (μ++[.l ds])else .stuck
 | .r=>.ok (.loc μ.length) (μ++[.r ds])
mutual
noncomputable def deq:D→D→Bool
 | .non,.non=>true
 | .bl a,.bl b=>a==b
 | .int a,.int b=>decide (a=b)
 | .bl a,.int b=>decide ((if a then 1 else 0:Int)=b)
 | .int a,.bl b=>decide (a=(if b then 1 else 0:Int))
 | .str a,.str b=>decide (a=b)
 | .tup a,.tup b=>ro a b
 | .lst a,.lst b=>ro a b
 | _,_=>false
noncomputable def ro:List D→List D→Bool
 | [],[]=>true
 | a::r,b::q=>deq a b&&ro r q
 | _,_=>false
end
noncomputable def rs1 (μ:Sto):Nat→D→D
 | 0,d=>d
 | _,.loc n=>match μ[n]? with
  | some (.l ds)=>.lst ds
  | some (.r ds)=>.lst ds
  | _=>.loc n
 | k+1,.tup ds=>.tup (ds.map (rs1 μ k))
 | k+1,.lst ds=>.lst (ds.map (rs1 μ k))
 | _,d=>d
noncomputable def rs (μ:Sto) (d:D):D:=rs1 μ 8 (rs1 μ 8 (rs1 μ 8 d))
noncomputable def gf:List D→Option (List Int)
 | []=>some []
 | .int i::r=>(gf r).map (i::·)
 | _=>none
noncomputable def gv:List D→Option (List Bool)
 | []=>some []
 | .bl i::r=>(gv r).map (i::·)
 | _=>none
noncomputable def lexLt:List Int→List Int→Bool
 | _,[]=>false
 | [],_::_=>true
 | x::xs,y::ys=>if x=y then lexLt xs ys else decide (x<y)
noncomputable def rowsOf:List D→Option (List (List Int))
 | []=>some []
 | .tup ds::r=>(gf ds).bind fun x=>(rowsOf r).map (x::·)
 | _=>none
noncomputable def ixN (n:Nat) (i:Int):Option Nat:=if 0≤i then(if i<n then some i.toNat else none)else if -(n:Int)≤i then some (i+n).toNat else none
noncomputable def sIx (n d:Nat):Option Int→Nat
 | none=>d
 | some v=>if v<0 then(v+(n:Int)).toNat else min v.toNat n
noncomputable def cut (ds:List D) (lo hi:Option Int):List D:=(ds.drop (sIx ds.length 0 lo)).take (sIx ds.length ds.length hi-sIx ds.length 0 lo)
noncomputable def CMul (i j:Int):Prop:=(-(2 ^ 64)<i∧i<2 ^ 64)∨(-(2 ^ 64)<j∧j<2 ^ 64)
instance (i j:Int):Decidable (CMul i j):=by unfold CMul;infer_instance
noncomputable def opI (op:Operator) (i j:Int) (μ:Sto):Res D:=match op with
 | .Add=>.ok (.int (i+j)) μ
 | .Sub=>.ok (.int (i-j)) μ
 | .Mult=>if CMul i j then .ok (.int (i*j)) μ else .stuck
 | .FloorDiv=>if 0<j∧j<1073741824 then .ok (.int (i / j)) μ else .stuck
 | .Mod=>if 0<j then .ok (.int (i % j)) μ else .stuck
 | .Pow=>if 0≤j∧j≤1000000∧i.natAbs<2 ^ 64 then .ok (.int (i ^ j.toNat)) μ else .stuck
 | .RShift=>if 0≤j then .ok (.int (i / 2 ^ j.toNat)) μ else .stuck
 | _=>.stuck
noncomputable def opD (op:Operator) (m:Mk) (a b:D) (μ:Sto):Res D:=match a,b with
 | .int i,.int j=>opI op i j μ
 | .tup xs,.tup ys=>match op with
  | .Add=>if xs.length+ys.length≤lim then .ok (.tup (xs++ys)) μ else .stuck
  | _=>.stuck
 | x,.int j=>match op,listOf μ x with
  | .Mult,some xs=>if xs.length*j.toNat≤lim ∧ -(2 ^ 63)≤j∧j<2 ^ 63 then mkL m (List.replicate j.toNat xs).flatten μ else .stuck
  | _,_=>.stuck
 | x,y=>match op,listOf μ x,listOf μ y with
  | .Add,some xs,some ys=>if xs.length+ys.length≤lim then mkL m (xs++ys) μ else .stuck
  | _,_,_=>.stuck
noncomputable def flat:D→Bool
 | .tup _=>false
 | .lst _=>false
 | .loc _=>false
 | _=>true
noncomputable def a8 (μ:Sto) (x:D):Option (List D×Option (Nat×O)):=match x with
 | .tup ds=>some (ds,none)
 | .lst ds=>some (ds,none)
 | .loc n=>match μ[n]? with
  | some (.l ds)=>some (ds,some (n,.l ds))
  | some (.r ds)=>some (ds,some (n,.r ds))
  | _=>none
 | _=>none
noncomputable def zv:D→Bool
 | .int _=>true
 | .str _=>true
 | _=>false
noncomputable def Nh:D→Bool
 | .tup ds=>ds.all zv
 | _=>false
noncomputable def qd (k:D):List (D×D)→Option D
 | []=>none
 | (x,v)::r=>if deq x k then some v else qd k r
noncomputable def dput (k v:D) (kvs:List (D×D)):List (D×D) :=
 if(kvs.any fun p=>deq p.1 k)=true then kvs.map (fun p=>if deq p.1 k=true then(p.1,v)else p)else kvs++[(k,v)]
noncomputable def dictAt (μ:Sto) (o k:D):Option (List (D×D)):=match o with
 | .loc n=>match μ[n]? with
  | some (.d kvs)=>if zv k=true then some kvs else none
  | _=>none
 | _=>none
noncomputable def Cm (μ:Sto) (o:D) (ks:List D):Option (List (D×D)):=match o with
 | .loc n=>match μ[n]? with
  | some (.dt kvs)=>if ks.all zv=true then some kvs else none
  | _=>none
 | _=>none
noncomputable def bp:List (Option D)→Option (List D)
 | []=>some []
 | none::_=>none
 | some d::r=>match bp r with
  | some ds=>some (d::ds)
  | none=>none
noncomputable def aj (μ:Sto):Nat→D→Option D
 | 0,d=>if flat d=true then some d else none
 | k+1,d=>match d with
  | .tup ds=>(bp (ds.map (aj μ k))).map .tup
  | .lst ds=>(bp (ds.map (aj μ k))).map .lst
  | .loc n=>match μ[n]? with
   | some (.l ds)=>(bp (ds.map (aj μ k))).map .lst
   | some (.r ds)=>(bp (ds.map (aj μ k))).map .lst
   | _=>none
  | d=>some d
noncomputable def cpD (op:Cp) (a b:D) (μ:Sto):Res D:=match op with
 | .eq=>if a.pure=true∧b.pure=true then .ok (.bl (deq a b)) μ else .stuck
 | .ne=>if a.pure=true∧b.pure=true then .ok (.bl (!deq a b)) μ else .stuck
 | .eqM=>match aj μ 8 a,aj μ 8 b with
  | some x,some y=>.ok (.bl (deq x y)) μ
  | _,_=>.stuck
 | .neM=>match aj μ 8 a,aj μ 8 b with
  | some x,some y=>.ok (.bl (!deq x y)) μ
  | _,_=>.stuck
 | .lt=>match a,b with
  | .int i,.int j=>.ok (.bl (decide (i<j))) μ
  | .tup x,.tup y=>match gf x,gf y with
   | some xs,some ys=>.ok (.bl (lexLt xs ys)) μ
   | _,_=>.stuck
  | _,_=>.stuck
 | .le=>match a,b with
  | .int i,.int j=>.ok (.bl (decide (i≤j))) μ
  | .tup x,.tup y=>match gf x,gf y with
   | some xs,some ys=>.ok (.bl (!lexLt ys xs)) μ
   | _,_=>.stuck
  | _,_=>.stuck
 | .gt=>match a,b with
  | .int i,.int j=>.ok (.bl (decide (j<i))) μ
  | _,_=>.stuck
 | .ge=>match a,b with
  | .int i,.int j=>.ok (.bl (decide (j≤i))) μ
  | .tup x,.tup y=>match gf x,gf y with
   | some xs,some ys=>.ok (.bl (!lexLt xs ys)) μ
   | _,_=>.stuck
  | _,_=>.stuck
 | .is=>match b with
  | .non=>.ok (.bl (match a with | .non=>true | _=>false)) μ
  | .bl k=>match a with
   | .bl j=>.ok (.bl (j==k)) μ
   | .non=>.ok (.bl false) μ
   | _=>.stuck
  | _=>.stuck
 | .isnot=>match b with
  | .non=>.ok (.bl (match a with | .non=>false | _=>true)) μ
  | .bl k=>match a with
   | .bl j=>.ok (.bl (!(j==k))) μ
   | .non=>.ok (.bl true) μ
   | _=>.stuck
  | _=>.stuck
 | .in_=>match bg μ b with
  | some ds=>if flat a=true∧ds.all flat=true then .ok (.bl (ds.any fun y=>deq y a)) μ else .stuck
  | none=>match dictAt μ b a with
   | some kvs=>.ok (.bl (qd a kvs).isSome) μ
   | none=>.stuck
 | .notin=>match bg μ b with
  | some ds=>if flat a=true∧ds.all flat=true then .ok (.bl (!ds.any fun y=>deq y a)) μ else .stuck
  | none=>match dictAt μ b a with
   | some kvs=>.ok (.bl (!(qd a kvs).isSome)) μ
   | none=>.stuck
noncomputable def insI (x:Int):List Int→List Int
 | []=>[x]
 | y::r=>if x≤y then x::y::r else y::insI x r
noncomputable def sortI:List Int→List Int
 | []=>[]
 | x::r=>insI x (sortI r)
noncomputable def Co (x:List Int):List (List Int)→List (List Int)
 | []=>[x]
 | y::r=>if lexLt y x=true then y::Co x r else x::y::r
noncomputable def Fc:List (List Int)→List (List Int)
 | []=>[]
 | x::r=>Co x (Fc r)
noncomputable def K5:Int→List Int→Int
 | x,[]=>x
 | x,y::r=>K5 (if y<x then y else x) r
noncomputable def j8 (f:D→Sto→Res D) (ds:List D) (μ:Sto):Res D:=match ds with
 | [x]=>f x μ
 | _=>.stuck
@[simp] theorem fw (f:D→Sto→Res D) (x:D) (μ:Sto):j8 f [x] μ=f x μ:=rfl
noncomputable def seq1 (f:List D→Sto→Res D) (x:D) (μ:Sto):Res D:=match bg μ x with
 | some xs=>f xs μ
 | none=>.stuck
noncomputable def zw (f:List Int→Sto→Res D) (x:D) (μ:Sto):Res D:=match(bg μ x).bind gf with
 | some ns=>f ns μ
 | none=>.stuck
noncomputable def vz (f:List Bool→Sto→Res D) (x:D) (μ:Sto):Res D:=match(bg μ x).bind gv with
 | some ns=>f ns μ
 | none=>.stuck
noncomputable def zx (m:Mk) (x:D) (μ:Sto):Res D:=match listOf μ x with
 | some xs=>mkL m xs.reverse μ
 | none=>.stuck
noncomputable def minD (ds:List D) (μ:Sto):Res D:=match ds with
 | [.int i,.int j]=>.ok (.int (if j<i then j else i)) μ
 | _=>.stuck
noncomputable def maxD (ds:List D) (μ:Sto):Res D:=match ds with
 | [.int i,.int j]=>.ok (.int (if j > i then j else i)) μ
 | _=>.stuck
noncomputable def Cq (m:Mk) (xs:List D) (μ:Sto):Res D:=match rowsOf xs with
 | some rs=>if rs.all (fun r=>!r.isEmpty)=true then mkL m ((Fc rs).map fun r=>.tup (r.map .int)) μ else .stuck
 | none=>.stuck
noncomputable def fg (ns:List Int):List Int:=ns.foldl (fun σ k=>if σ.any (·==k)then σ else σ++[k]) []
noncomputable def rp (m:Mk):D→Sto→Res D:=zw fun ns μ=>if ns.length<64 then mkL m ((sortI (fg ns)).map .int) μ else .stuck
noncomputable def Fd (m:Mk) (x:D) (μ:Sto):Res D:=match listOf μ x with
 | some xs=>if xs.length<64 then Cq m xs μ else .stuck
 | none=>.stuck
noncomputable def Ij:D→Sto→Res D:=zw fun ns μ=>match ns with
 | n::r=>.ok (.int (K5 n r)) μ
 | []=>.stuck
noncomputable def Fe (x:D) (μ:Sto):Res D:=match x with
 | .bl b=>.ok (.int (if b then 1 else 0)) μ
 | .int i=>.ok (.int i) μ
 | _=>.stuck
noncomputable def Bc (f:List D→Sto→Res D) (x:D) (μ:Sto):Res D:=match x with
 | .int j=>if -(lim:Int)≤j∧j≤lim then f ((List.range j.toNat).map fun(i:Nat)=>D.int i) μ else .stuck
 | _=>.stuck
noncomputable def ja:List D→Option (List (D×D))
 | []=>some []
 | .tup [k,v]::r=>if zv k=true∧v.pure=true then(ja r).map ((k,v)::·)else none
 | _=>none
noncomputable def v7 (x:D) (μ:Sto):Res D:=match(listOf μ x).bind ja with
 | some ps=>if ps.length<1000 then .ok (.loc μ.length) (μ++[.d (ps.foldl (fun m p=>dput p.1 p.2 m) [])])else .stuck
 | none=>.stuck
noncomputable def btD (b:Bt) (m:Mk) (ds:List D) (μ:Sto):Res D:=match b with
 | .len=>j8 (seq1 fun xs μ=>.ok (.int xs.length) μ) ds μ
 | .tuple=>j8 (seq1 fun xs μ=>.ok (.tup xs) μ) ds μ
 | .list=>j8 (seq1 fun xs μ=>mkL m xs μ) ds μ
 | .listRev=>j8 (zx m) ds μ
 | .sum=>j8 (zw fun ns μ=>.ok (.int ns.sum) μ) ds μ
 | .min=>minD ds μ
 | .max=>maxD ds μ
 | .all=>j8 (vz fun bs μ=>.ok (.bl (bs.all id)) μ) ds μ
 | .any=>j8 (vz fun bs μ=>.ok (.bl (bs.any id)) μ) ds μ
 | .sorted=>j8 (Fd m) ds μ
 | .min1=>j8 Ij ds μ
 | .sortedSet=>j8 (rp m) ds μ
 | .int=>j8 Fe ds μ
 | .listRange=>j8 (Bc fun xs μ=>mkL m xs μ) ds μ
 | .tupleRange=>j8 (Bc fun xs μ=>.ok (.tup xs) μ) ds μ
 | .dictP=>j8 v7 ds μ
noncomputable def zy (c:Cl) (d:D) (μ:Sto):Res D:=match d,c with
 | .int _,.int=>.ok (.bl true) μ
 | .bl _,.int=>.ok (.bl true) μ
 | .bl _,.bool=>.ok (.bl true) μ
 | .tup _,.tuple=>.ok (.bl true) μ
 | .lst _,.list=>.ok (.bl true) μ
 | .str _,.str=>.ok (.bl true) μ
 | .loc n,.list=>match μ[n]? with
  | some (.l _)=>.ok (.bl true) μ
  | some (.r _)=>.ok (.bl true) μ
  | _=>.stuck
 | .loc _,_=>.stuck
 | _,.own _=>.stuck
 | _,_=>.ok (.bl false) μ
noncomputable def putL (n:Nat) (o:O) (ds:List D) (d:D) (μ:Sto):Res D:=match o with
 | .l _=>.ok d (μ.set n (.l ds))
 | .r _=>.ok d (μ.set n (.r ds))
 | _=>.stuck
noncomputable def fits (o:O) (d:D):Bool:=match o with
 | .l _=>d.pure
 | .r _=>true
 | _=>false
noncomputable def kf:O→Option (List D)
 | .l ds=>some ds
 | .r ds=>some ds
 | _=>none
noncomputable def mtL (mt:Mt) (n:Nat) (ob:O) (xs:List D) (ds:List D) (μ:Sto):Res D:=match mt with
 | .append=>j8 (fun d μ=>if fits ob d=true∧xs.length<lim then putL n ob (xs++[d]) .non μ else .stuck) ds μ
 | .pop=>match ds with
  | []=>match xs.getLast? with
   | some d=>putL n ob xs.dropLast d μ
   | none=>.stuck
  | [.int i]=>if 0≤i∧i<lim then(match xs[i.toNat]? with
   | some d=>putL n ob (xs.eraseIdx i.toNat) d μ
   | none=>.stuck)else .stuck
  | _=>.stuck
 | .extend=>j8 (fun y μ=>match listOf μ y with
  | some ys=>if ys.all (fits ob)=true∧xs.length+ys.length≤lim then putL n ob (xs++ys) .non μ else .stuck
  | none=>.stuck) ds μ
 | .extendT=>j8 (fun y μ=>match y with
  | .tup ys=>if ys.all (fits ob)=true∧xs.length+ys.length≤lim then putL n ob (xs++ys) .non μ else .stuck
  | _=>.stuck) ds μ
 | .insert=>match ds with
  | [.int i,d]=>if 0≤i∧i≤(xs.length:Int)∧fits ob d=true∧xs.length<lim then putL n ob (xs.take i.toNat++d::xs.drop i.toNat) .non μ else .stuck
  | _=>.stuck
 | .reverse=>match ds with
  | []=>putL n ob xs.reverse .non μ
  | _=>.stuck
 | .clear=>match ds with
  | []=>putL n ob [] .non μ
  | _=>.stuck
 | _=>.stuck
noncomputable def K6 (xs ds:List D) (μ:Sto):Res D:=j8 (fun x μ=>if flat x=true∧xs.all flat=true then .ok (.int (xs.countP fun y=>deq y x)) μ else .stuck) ds μ
noncomputable def Ni (o:D) (ds:List D) (μ:Sto):Res D:=match o with
 | .tup xs=>K6 xs ds μ
 | _=>.stuck
noncomputable def Nj (o:D) (ds:List D) (μ:Sto):Res D:=match listOf μ o with
 | some xs=>K6 xs ds μ
 | none=>.stuck
noncomputable def jb (mt:Mt) (x:D) (μ:Sto):Bool:=match mt with
 | .get=>match x with
  | .loc n=>match μ[n]? with
   | some (.d _)=>true
   | _=>false
  | _=>false
 | .count=>match x with
  | .tup _=>true
  | _=>false
 | _=>(listOf μ x).isSome
noncomputable def Ik (o:D) (ds:List D) (μ:Sto):Res D:=match ds with
 | [k,x]=>match dictAt μ o k with
  | some kvs=>.ok ((qd k kvs).getD x) μ
  | none=>.stuck
 | _=>.stuck
noncomputable def v8 (mt:Mt) (o:D) (ds:List D) (μ:Sto):Res D:=match o with
 | .loc n=>match μ[n]? with
  | none=>.stuck
  | some ob=>match kf ob with
   | none=>.stuck
   | some xs=>mtL mt n ob xs ds μ
 | _=>.stuck
noncomputable def mtD (mt:Mt) (o:D) (ds:List D) (μ:Sto):Res D:=match mt with
 | .count=>Ni o ds μ
 | .countL=>Nj o ds μ
 | .get=>Ik o ds μ
 | mt=>v8 mt o ds μ
noncomputable def Il (a:D) (ks:List D) (v:D) (μ:Sto):Res Unit:=match a with
 | .loc n=>match μ[n]? with
  | some (.dt kvs)=>if ks.all zv=true∧v.pure=true∧kvs.length<lim then .ok () (μ.set n (.dt (dput (.tup ks) v kvs)))else .stuck
  | _=>.stuck
 | _=>.stuck
noncomputable def Nk (neg:Bool) (ks:List D) (a:D) (μ:Sto):Res D:=match Cm μ a ks with
 | some kvs=>.ok (.bl (neg ^^ (qd (.tup ks) kvs).isSome)) μ
 | none=>.stuck
noncomputable def ixD (a b:D) (μ:Sto):Res D:=match b with
 | .int i=>match bg μ a with
  | some xs=>match ixN xs.length i with
   | some j=>match xs[j]? with
    | some d=>.ok d μ
    | none=>.stuck
   | none=>.stuck
  | none=>.stuck
 | _=>.stuck
noncomputable def ixL (a b:D) (μ:Sto):Res D:=match a with
 | .loc n=>ixD (.loc n) b μ
 | _=>.stuck
noncomputable def Im (a b:D) (μ:Sto):Res D:=match dictAt μ a b with
 | some kvs=>match qd b kvs with
  | some v=>.ok v μ
  | none=>.stuck
 | none=>.stuck
noncomputable def K7 (op:Operator) (a b:D) (μ:Sto):Res D:=match a,b with
 | .int i,.int j=>match op with
  | .Add=>.ok (.int (i+j)) μ
  | .Sub=>.ok (.int (i-j)) μ
  | _=>.stuck
 | _,_=>.stuck
noncomputable def slD (m:Mk) (a:D) (lo hi:Option Int) (μ:Sto):Res D:=match a with
 | .tup xs=>.ok (.tup (cut xs lo hi)) μ
 | x=>match listOf μ x with
  | some xs=>mkL m (cut xs lo hi) μ
  | none=>.stuck
noncomputable def D3 (a b v:D) (μ:Sto):Res Unit:=match a with
 | .loc n=>match μ[n]? with
  | none=>.stuck
  | some (.d kvs)=>if zv b=true∧v.pure=true∧kvs.length<lim then .ok () (μ.set n (.d (dput b v kvs)))else .stuck
  | some ob=>match kf ob,b with
   | some xs,.int i=>match ixN xs.length i with
    | some j=>if fits ob v=true then(putL n ob (xs.set j v) .non μ).bind fun _ μ=>.ok () μ else .stuck
    | none=>.stuck
   | _,_=>.stuck
 | _=>.stuck
noncomputable def cz (tg:Tg) (d:D) (σ:Sl):Option Sl:=match tg with
 | .one i=>some (σ.set i (some d))
 | .many is=>match d with
  | .tup ds=>if ds.length=is.length then some ((is.zip ds).foldl (fun s p=>s.set p.1 (some p.2)) σ)else none
  | _=>none
noncomputable abbrev Gd:=Option (Nat×O)
noncomputable def gd (g:Gd) (μ:Sto):Prop:=match g with
 | none=>True
 | some (n,o)=>μ[n]? = some o
@[simp] theorem qe (μ:Sto):gd none μ=True:=rfl
open Classical in
noncomputable def mapR (g:Gd) (f:D→Sto→Res (List D)):List D→Sto→Res (List D)
 | [],μ=>if gd g μ then .ok [] μ else .stuck
 | d::ds,μ=>if gd g μ then(f d μ).bind fun xs μ1=>(mapR g f ds μ1).bind fun ys μ2=>.ok (xs++ys) μ2 else .stuck
inductive Fl where
 | nx (σ:Sl) | rt (d:D) | bk (σ:Sl) | ct (σ:Sl)
open Classical in
noncomputable def gx (g:Gd) (f:D→Sl→Sto→Res Fl):List D→Sl→Sto→Res Fl
 | [],σ,μ=>if gd g μ then .ok (.nx σ) μ else .stuck
 | d::ds,σ,μ=>if gd g μ then(f d σ μ).bind fun fl μ1=>match fl with
  | .nx σ1=>gx g f ds σ1 μ1
  | .ct σ1=>gx g f ds σ1 μ1
  | .bk σ1=>.ok (.nx σ1) μ1
  | .rt v=>.ok (.rt v) μ1 else .stuck
noncomputable def K8 (t:Bool) (ds:List D) (μ:Sto):Res D:=match ds with
 | []=>.ok (.loc μ.length) (μ++[if t then .dt []else .d []])
 | [.int a,x]=>if t=false∧x.pure=true then .ok (.loc μ.length) (μ++[.d [(.int a,x)]])else .stuck
 | [.int a,x,.int b,y]=>if t=false∧x.pure=true∧y.pure=true then .ok (.loc μ.length) (μ++[.d (dput (.int b) y [(.int a,x)])])else .stuck
 | _=>.stuck
noncomputable abbrev Phi:=Nat→List D→Sto→Res D
noncomputable def D.belowN (b:Nat):Nat→D→Bool
 | 0,d=>match d with | .tup _=>false | .lst _=>false | .loc n=>decide (n<b) | _=>true
 | k+1,d=>match d with | .tup ds=>ds.all (D.belowN b k) | .lst ds=>ds.all (D.belowN b k) | .loc n=>decide (n<b) | _=>true
noncomputable def gi (b:Nat):O→Bool
 | .r ds=>ds.all (D.belowN b 8)
 | _=>true
noncomputable def noR:O→Bool
 | .r _=>false
 | _=>true
noncomputable def jc (keep:Bool) (base:Nat) (r:Res D):Res D:=match r with
 | .ok d μ'=>if keep=true then .ok d μ' else if D.belowN base 8 d=true∧(μ'.take base).all (gi base)=true then .ok d (μ'.take base)else .stuck
 | x=>x
noncomputable def K9 (d:D) (μ:Sto):Res Bool:=match d with
 | .bl b=>.ok b μ
 | _=>.stuck
section
variable (φ : Phi)
mutual
noncomputable def evE:Ex→Sl→Sto→Res D
 | .var i,σ,μ=>match σ[i]? with
  | some (some d)=>.ok d μ
  | _=>.stuck
 | .frz i,σ,μ=>match σ[i]? with
  | some (some (.loc n))=>match μ[n]? with
   | some (.l ds)=>.ok (.lst ds) (μ.set n .dead)
   | some (.r ds)=>.ok (.lst ds) (μ.set n .dead)
   | _=>.stuck
  | _=>.stuck
 | .cst d,_,μ=>.ok d μ
 | .bin op m a b,σ,μ=>(evE a σ μ).bind fun x μ=>(evE b σ μ).bind fun y μ=>opD op m x y μ
 | .neg a,σ,μ=>(evE a σ μ).bind fun x μ=>match x with
  | .int i=>.ok (.int (-i)) μ
  | _=>.stuck
 | .not a,σ,μ=>(evE a σ μ).bind fun x μ=>match x with
  | .bl b=>.ok (.bl (!b)) μ
  | _=>.stuck
 | .and a b,σ,μ=>(evE a σ μ).bind fun x μ=>match x with
  | .bl c=>if c=true then evE b σ μ else .ok (.bl false) μ
  | _=>.stuck
 | .or a b,σ,μ=>(evE a σ μ).bind fun x μ=>match x with
  | .bl c=>if c=true then .ok (.bl true) μ else evE b σ μ
  | _=>.stuck
 | .ite c a b,σ,μ=>(evE c σ μ).bind fun x μ=>match x with
  | .bl c=>if c=true then evE a σ μ else evE b σ μ
  | _=>.stuck
 | .cmp a r,σ,μ=>(evE a σ μ).bind fun x μ=>evC r x σ μ
 | .call keep f es,σ,μ=>(fi es σ μ).bind fun ds μ=>jc keep μ.length (φ f ds μ)
 | .blt b m es,σ,μ=>(fi es σ μ).bind fun ds μ=>btD b m ds μ
 | .isi a c,σ,μ=>(evE a σ μ).bind fun x μ=>zy c x μ
 | .meth mt o es,σ,μ=>(evE o σ μ).bind fun x μ=>if jb mt x μ=true then(fi es σ μ).bind fun ds μ=>mtD mt x ds μ else .stuck
 | .ix a b,σ,μ=>(evE a σ μ).bind fun x μ=>(evE b σ μ).bind fun y μ=>ixD x y μ
 | .dix a b,σ,μ=>(evE a σ μ).bind fun x μ=>(evE b σ μ).bind fun y μ=>Im x y μ
 | .sl m a lo hi,σ,μ=>(evE a σ μ).bind fun x μ=>(evO lo σ μ).bind fun l μ=>(evO hi σ μ).bind fun h μ=>slD m x l h μ
 | .tup es,σ,μ=>(fi es σ μ).bind fun ds μ=>.ok (.tup ds) μ
 | .lst m es,σ,μ=>(fi es σ μ).bind fun ds μ=>mkL m ds μ
 | .dic t es,σ,μ=>(fi es σ μ).bind fun ds μ=>K8 t ds μ
 | .inT neg es d,σ,μ=>(fi es σ μ).bind fun ds μ=>(evE d σ μ).bind fun x μ=>Nk neg ds x μ
 | .comp m cap nl tg it cs elt,σ,μ=>(evI it σ μ).bind fun ds μ =>
   (mapR ds.2 (fun d μ=>gg (cz tg d (cap.map (fun i=>(σ[i]?).getD none)++List.replicate nl none)) fun σ' =>
    (tx cs σ' μ).bind fun b μ=>if b=true then(evE elt σ' μ).bind fun x μ=>.ok [x] μ else .ok [] μ) ds.1 μ).bind fun xs μ=>mkL m xs μ
noncomputable def fi:Exs→Sl→Sto→Res (List D)
 | .nil,_,μ=>.ok [] μ
 | .cons e es,σ,μ=>(evE e σ μ).bind fun d μ=>(fi es σ μ).bind fun ds μ=>.ok (d::ds) μ
noncomputable def evC:Cps→D→Sl→Sto→Res D
 | .nil,_,_,_=>.stuck
 | .cons op e r,x,σ,μ=>(evE e σ μ).bind fun y μ=>(cpD op x y μ).bind fun z μ=>match r with
  | .nil=>.ok z μ
  | r=>match z with
   | .bl b=>if b=true then evC r y σ μ else .ok (.bl false) μ
   | _=>.stuck
noncomputable def evO:ExO→Sl→Sto→Res (Option Int)
 | .no,_,μ=>.ok none μ
 | .so e,σ,μ=>(evE e σ μ).bind fun x μ=>match x with
  | .int i=>.ok (some i) μ
  | _=>.stuck
noncomputable def tx:Exs→Sl→Sto→Res Bool
 | .nil,_,μ=>.ok true μ
 | .cons e es,σ,μ=>(evE e σ μ).bind fun x μ=>match x with
  | .bl b=>if b=true then tx es σ μ else .ok false μ
  | _=>.stuck
noncomputable def evI:It→Sl→Sto→Res (List D×Gd)
 | .seq e,σ,μ=>(evE e σ μ).bind fun x μ=>match a8 μ x with
  | some w=>.ok w μ
  | none=>.stuck
 | .rng a,σ,μ=>(evE a σ μ).bind fun x μ=>match x with
  | .int j=>if -(lim:Int)≤j∧j≤lim then .ok ((List.range j.toNat).map fun(i:Nat)=>D.int i,none) μ else .stuck
  | _=>.stuck
 | .rng2 a b,σ,μ=>(evE a σ μ).bind fun x μ=>(evE b σ μ).bind fun y μ=>match x,y with
  | .int i,.int j=>if -(lim:Int)≤i∧i≤lim∧j≤lim ∧ -(lim:Int)≤j∧(j-i)≤lim then .ok ((List.range (j-i).toNat).map fun(k:Nat)=>D.int (i+k),none) μ else .stuck
  | _,_=>.stuck
 | .rng3 a b c,σ,μ=>(evE a σ μ).bind fun x μ=>(evE b σ μ).bind fun y μ=>(evE c σ μ).bind fun z μ=>match x,y,z with
  | .int i,.int j,.int k=>if 0≤i∧i≤lim∧j≤lim∧0≤j∧1≤k∧k≤1000 then .ok ((List.range (if i<j then((j-i-1) / k+1).toNat else 0)).map fun(n:Nat)=>D.int (i+n*k),none) μ else .stuck
  | _,_,_=>.stuck
 | .zip a b,σ,μ=>(evE a σ μ).bind fun x μ=>(evE b σ μ).bind fun y μ=>match a8 μ x,bg [] y with
  | some w,some ys=>.ok ((w.1.zip ys).map fun p=>.tup [p.1,p.2],w.2) μ
  | _,_=>.stuck
 | .enum a,σ,μ=>(evE a σ μ).bind fun x μ=>match a8 μ x with
  | some w=>.ok ((List.range w.1.length |>.zip w.1).map fun(p:Nat×D)=>.tup [.int p.1,p.2],w.2) μ
  | none=>.stuck
 | .rev _,_,_=>.stuck
 | .vals a,σ,μ=>(evE a σ μ).bind fun x μ=>match x with
  | .loc n=>match μ[n]? with
   | some (.d kvs)=>.ok (kvs.map (·.2),none) (μ.set n .dead)
   | _=>.stuck
  | _=>.stuck
end
mutual
noncomputable def evS:Sm→Sl→Sto→Res Fl
 | .set i e,σ,μ=>(evE φ e σ μ).bind fun d μ=>.ok (.nx (σ.set i (some d))) μ
 | .unp is e,σ,μ=>(evE φ e σ μ).bind fun d μ=>match cz (.many is) d σ with
  | some σ'=>.ok (.nx σ') μ
  | none=>.stuck
 | .setx o i v,σ,μ=>(evE φ v σ μ).bind fun d μ=>(evE φ o σ μ).bind fun x μ=>(evE φ i σ μ).bind fun y μ=>(D3 x y d μ).bind fun _ μ=>.ok (.nx σ) μ
 | .augx op o i v,σ,μ=>(evE φ o σ μ).bind fun x μ=>(evE φ i σ μ).bind fun y μ=>(ixL x y μ).bind fun old μ=>(evE φ v σ μ).bind fun d μ=>(K7 op old d μ).bind fun z μ=>(D3 x y z μ).bind fun _ μ=>.ok (.nx σ) μ
 | .setxT o i v,σ,μ=>(evE φ v σ μ).bind fun d μ=>(evE φ o σ μ).bind fun x μ=>(fi φ i σ μ).bind fun y μ=>(Il x y d μ).bind fun _ μ=>.ok (.nx σ) μ
 | .ex e,σ,μ=>(evE φ e σ μ).bind fun _ μ=>.ok (.nx σ) μ
 | .ite c a b,σ,μ=>(evE φ c σ μ).bind fun x μ=>match x with
  | .bl k=>if k=true then ik a σ μ else ik b σ μ
  | _=>.stuck
 | .loop tg it b,σ,μ=>(evI φ it σ μ).bind fun ds μ=>gx ds.2 (fun d σ μ=>gg (cz tg d σ) fun σ'=>ik b σ' μ) ds.1 σ μ
 | .ret e,σ,μ=>(evE φ e σ μ).bind fun d μ=>.ok (.rt d) μ
 | .raise c es,σ,μ=>(fi φ es σ μ).bind fun ds μ=>.exc c ds μ
 | .pass,σ,μ=>.ok (.nx σ) μ
 | .brk,σ,μ=>.ok (.bk σ) μ
 | .cont,σ,μ=>.ok (.ct σ) μ
 | .never,_,_=>.stuck
noncomputable def ik:Sms→Sl→Sto→Res Fl
 | .nil,σ,μ=>.ok (.nx σ) μ
 | .cons s r,σ,μ=>(evS s σ μ).bind fun fl μ=>match fl with
  | .nx σ'=>ik r σ' μ
  | fl=>.ok fl μ
end
end
structure Df where
 np:Nat
 nn:Nat
 body:Sms
noncomputable def D4 (φ:Phi) (f:Df) (ds:List D) (μ:Sto):Res D :=
 if ds.length=f.np then(ik φ f.body (ds.map some++List.replicate (f.nn-f.np) none) μ).bind fun fl μ=>match fl with
  | .nx _=>.ok .non μ
  | .rt d=>.ok d μ
  | _=>.stuck
 else .stuck
noncomputable def ax (T:List Df):Nat→Phi
 | 0=>fun _ _ _=>.stuck
 | n+1=>fun f ds μ=>match T[f]? with
  | some d=>D4 (ax T n) d ds μ
  | none=>.stuck
end Lp
set_option maxHeartbeats 4000000
namespace Lp
open PySem PySem.Spec PyProof.Rows L2
noncomputable abbrev St:=L2.St
theorem _root_.L2.FzL.sq {K:PySem.W.Frag} {H:Hp} {a:Addr} {xs:List V} (h:FzL K H a xs):SqL K H a xs:=by
 rcases h with⟨o,h⟩ | ⟨its,n,h,hz,hv⟩
 ·exact .inl (.inr ⟨o,h⟩)
 ·exact .inr ⟨_,its.toArray,n,h,rfl,rfl,rfl,by rw[AE,←hv.length];exact hz,by simpa using hv⟩
noncomputable def LsL (K:PySem.W.Frag) (H:Hp) (a:Addr) (xs:List V):Prop:=H a=some (.lst xs)∨FzL K H a xs
theorem LsL.sq {K:PySem.W.Frag} {H:Hp} {a:Addr} {xs:List V} (h:LsL K H a xs):SqL K H a xs:=by
 rcases h with h | h
 ·exact .of h
 ·exact h.sq
theorem _root_.L2.Inv.ls {X:Cx} {pins:List (Addr×Obj)} {σ:St} {H:Hp} {s:Shared} {a:Addr} {xs:List V} (I:Inv X pins σ H s) (h:LsL X.K H a xs) :
  xs.length≤sizeLine∧∃(its:List Value) (n:Nat),a9 xs its∧xs.length=its.length∧s.heap.get? a=some {cls:=.type "list",data:=.seq its.toArray n}:=by
 rcases h with h | ⟨o,h⟩ | ⟨its,n,h,hz,hv⟩
 ·obtain⟨z,its,n,hv,e⟩:=I.hok a _ h
  exact⟨z,its,n,hv,hv.length,e⟩
 ·obtain⟨_,z,its,n,hv,e⟩:=I.hok a _ h
  exact⟨z,its,n,hv,hv.length,e⟩
 ·exact⟨hz,its,n,hv,hv.length,I.kIn a _ h⟩
structure Ext (H H':Hp):Prop where
 tups:∀b xs,H b=some (.tup xs)→H' b=some (.tup xs)
 frzs:∀b o u,H b=some (.frz o u)→H' b=some (.frz o u)
theorem Ext.refl (H:Hp):Ext H H:=⟨fun _ _ h=>h,fun _ _ _ h=>h⟩
theorem Ext.trans {H H1 H2:Hp} (a:Ext H H1) (b:Ext H1 H2):Ext H H2:=⟨fun c xs h=>b.tups c xs (a.tups c xs h),fun c o u h=>b.frzs c o u (a.frzs c o u h)⟩
theorem Ext.new {H:Hp} {p:Addr} {o:HO} (h:H p=none):Ext H (upd H p o) :=
 ⟨fun b xs e=>by rw[ai (aq e h)];exact e,fun b o u e=>by rw[ai (aq e h)];exact e⟩
theorem Ext.lst {H:Hp} {p:Addr} {xs:List V} {o:HO} (h:H p=some (.lst xs)):Ext H (upd H p o) :=
 ⟨fun b ys e=>by rw[ai (p5 e h (by intro z;cases z))];exact e,fun b o u e=>by rw[ai (p5 e h (by intro z;cases z))];exact e⟩
theorem _root_.L2.SqT.ext {K:PySem.W.Frag} {H H':Hp} {a:Addr} {xs:List V} (h:SqT K H a xs) (e:Ext H H'):SqT K H' a xs:=by
 rcases h with(h | ⟨o,h⟩) | h
 ·exact .inl (.inl (e.tups _ _ h))
 ·exact .inl (.inr ⟨o,e.frzs _ _ _ h⟩)
 ·exact .inr h
theorem _root_.L2.FzL.ext {K:PySem.W.Frag} {H H':Hp} {a:Addr} {xs:List V} (h:FzL K H a xs) (e:Ext H H'):FzL K H' a xs:=by
 rcases h with⟨o,h⟩ | h
 ·exact .inl ⟨o,e.frzs _ _ _ h⟩
 ·exact .inr h
section
variable (K : PySem.W.Frag) (ι : List Addr) (H : Hp)
mutual
noncomputable def IsD:D→V→Prop
 | .non,v=>v=.non
 | .bl b,v=>v=.bl b
 | .int i,v=>v=.int i
 | .str x,v=>v=.str x
 | .tup ds,v=>∃a xs,v=.ref a∧SqT K H a xs∧ae ds xs
 | .lst ds,v=>∃a xs,v=.ref a∧FzL K H a xs∧ae ds xs
 | .loc n,v=>∃a,v=.ref a∧ι[n]? = some a
noncomputable def ae:List D→List V→Prop
 | [],xs=>xs=[]
 | d::ds,xs=>∃v r,xs=v::r∧IsD d v∧ae ds r
end
end
section
variable {K : PySem.W.Frag} {ι ι' : List Addr} {H H' : Hp}
mutual
theorem IsD.mono (hp:ι <+: ι') (he:Ext H H'):∀(d:D) (v:V),IsD K ι H d v→IsD K ι' H' d v
 | .non,_,h=>by simpa[IsD]using h
 | .bl b,_,h=>by simpa[IsD]using h
 | .int i,_,h=>by simpa[IsD]using h
 | .str x,_,h=>by simpa[IsD]using h
 | .tup ds,v,h=>by
  simp only[IsD]at h ⊢
  obtain⟨a,xs,e,q,r⟩:=h
  exact⟨a,xs,e,q.ext he,ae.mono hp he ds xs r⟩
 | .lst ds,v,h=>by
  simp only[IsD]at h ⊢
  obtain⟨a,xs,e,q,r⟩:=h
  exact⟨a,xs,e,q.ext he,ae.mono hp he ds xs r⟩
 | .loc n,v,h=>by
  simp only[IsD]at h ⊢
  obtain⟨a,e,q⟩:=h
  obtain⟨t,rfl⟩:=hp
  exact⟨a,e,by rw[AR (AK.mp q).1];exact q⟩
theorem ae.mono (hp:ι <+: ι') (he:Ext H H'):∀(ds:List D) (xs:List V),ae K ι H ds xs→ae K ι' H' ds xs
 | [],xs,h=>by simpa[ae]using h
 | d::ds,xs,h=>by
  simp only[ae]at h ⊢
  obtain⟨v,r,e,q,t⟩:=h
  exact⟨v,r,e,IsD.mono hp he d v q,ae.mono hp he ds r t⟩
end
theorem ae.length:∀{ds:List D} {xs:List V},ae K ι H ds xs→xs.length=ds.length
 | [],xs,h=>by simp only[ae]at h;subst h;rfl
 | d::ds,xs,h=>by
  simp only[ae]at h
  obtain⟨v,r,rfl,_,t⟩:=h
  simp[ae.length t]
theorem ae.get:∀{ds:List D} {xs:List V} {i:Nat} {d:D},ae K ι H ds xs→ds[i]? = some d→∃v,xs[i]? = some v∧IsD K ι H d v
 | [],_,_,_,_,e=>by simp at e
 | d::ds,xs,0,_,h,e=>by
  simp only[ae]at h
  obtain⟨v,r,rfl,q,_⟩:=h
  simp at e;subst e
  exact⟨v,rfl,q⟩
 | d::ds,xs,i+1,x,h,e=>by
  simp only[ae]at h
  obtain⟨v,r,rfl,_,t⟩:=h
  obtain⟨w,h1,h2⟩:=ae.get (i:=i) (d:=x) t (by simpa using e)
  exact⟨w,by simpa using h1,h2⟩
theorem ae.append:∀{ds es:List D} {xs ys:List V},ae K ι H ds xs→ae K ι H es ys→ae K ι H (ds++es) (xs++ys)
 | [],_,_,_,h,g=>by simp only[ae]at h;subst h;exact g
 | d::ds,es,xs,ys,h,g=>by
  simp only[ae]at h
  obtain⟨v,r,rfl,q,t⟩:=h
  simp only[List.cons_append,ae]
  exact⟨v,r++ys,rfl,q,ae.append t g⟩
theorem ae.one {d:D} {v:V} (h:IsD K ι H d v):ae K ι H [d] [v]:=by
 simp only[ae];exact⟨v,[],rfl,h,rfl⟩
theorem ae.take:∀{ds:List D} {xs:List V} (n:Nat),ae K ι H ds xs→ae K ι H (ds.take n) (xs.take n)
 | _,_,0,_=>by simp[ae]
 | [],_,n+1,h=>by simp only[ae]at h;subst h;simp[ae]
 | d::ds,xs,n+1,h=>by
  simp only[ae]at h
  obtain⟨v,r,rfl,q,t⟩:=h
  simp only[List.take_succ_cons,ae]
  exact⟨v,_,rfl,q,ae.take n t⟩
theorem ae.drop:∀{ds:List D} {xs:List V} (n:Nat),ae K ι H ds xs→ae K ι H (ds.drop n) (xs.drop n)
 | _,_,0,h=>by simpa using h
 | [],_,n+1,h=>by simp only[ae]at h;subst h;simp[ae]
 | d::ds,xs,n+1,h=>by
  simp only[ae]at h
  obtain⟨v,r,rfl,q,t⟩:=h
  simpa using ae.drop n t
theorem ae.rep {ds:List D} {xs:List V} (h:ae K ι H ds xs):∀k:Nat,ae K ι H (List.replicate k ds).flatten (List.replicate k xs).flatten
 | 0=>by simp[ae]
 | k+1=>by
  simp only[CL,DR]
  exact h.append (ae.rep h k)
theorem ae.ints:∀(ns:List Int),ae K ι H (ns.map D.int) (ns.map V.int)
 | []=>by simp[ae]
 | n::r=>by
  simp only[AZ,ae]
  exact⟨_,_,rfl,by simp[IsD],ae.ints r⟩
theorem IsD.puren:∀(k:Nat) (d:D) (v:V),D.pureN k d=true→IsD K ι H d v→IsD K ι' H d v:=by
 have list:∀(k:Nat),(∀(d:D) (v:V),D.pureN k d=true→IsD K ι H d v→IsD K ι' H d v) →
   ∀(ds:List D) (xs:List V),ds.all (D.pureN k)=true→ae K ι H ds xs→ae K ι' H ds xs:=by
  intro k ih ds
  induction ds with
  | nil=>intro xs _ h;simpa[ae]using h
  | cons d ds ihd =>
   intro xs hp h
   simp only[ae]at h ⊢
   simp only[BO,AX]at hp
   obtain⟨v,r,e,q,t⟩:=h
   exact⟨v,r,e,ih d v hp.1 q,ihd r hp.2 t⟩
 intro k
 induction k with
 | zero =>
  intro d v hp h
  cases d<;>simp_all[D.pureN,IsD]
 | succ k ih =>
  intro d v hp h
  cases d with
  | tup ds =>
   simp only[D.pureN]at hp
   simp only[IsD]at h ⊢
   obtain⟨a,xs,e,q,r⟩:=h
   exact⟨a,xs,e,q,list k ih ds xs hp r⟩
  | lst ds =>
   simp only[D.pureN]at hp
   simp only[IsD]at h ⊢
   obtain⟨a,xs,e,q,r⟩:=h
   exact⟨a,xs,e,q,list k ih ds xs hp r⟩
  | loc n=>simp[D.pureN]at hp
  | _=>simpa[IsD]using h
theorem IsD.pur {d:D} {v:V} (hp:d.pure=true) (h:IsD K ι H d v):IsD K ι' H d v:=IsD.puren 8 d v hp h
theorem ae.pur {ds:List D} {xs:List V} (hp:ds.all (D.pureN 8)=true) (h:ae K ι H ds xs):ae K ι' H ds xs:=by
 induction ds generalizing xs with
 | nil=>simpa[ae]using h
 | cons d ds ih =>
  simp only[ae]at h ⊢
  simp only[BO,AX]at hp
  obtain⟨v,r,e,q,t⟩:=h
  exact⟨v,r,e,IsD.pur hp.1 q,ih hp.2 t⟩
end
section
variable (K : PySem.W.Frag) (ι : List Addr) (H : Hp)
noncomputable def zg (kvs:List (D×D)) (xs:List (Key×V)):Prop :=
 Paired (fun(p:D×D) (q:Key×V)=>IsD K [] H p.1 (kV q.1)∧IsD K [] H p.2 q.2) kvs xs
noncomputable def Nl (kvs:List (D×D)) (xs:List (List Key×V)):Prop :=
 Paired (fun(p:D×D) (q:List Key×V)=>(∃ds,p.1=.tup ds∧ae K [] H ds (q.1.map kV))∧IsD K [] H p.2 q.2) kvs xs
noncomputable def OIs (a:Addr):O→Prop
 | .l ds=>∃xs,H a=some (.lst xs)∧ae K [] H ds xs
 | .r ds=>∃xs,H a=some (.lst xs)∧ae K ι H ds xs
 | .d kvs=>∃xs,H a=some (.dK xs)∧zg K H kvs xs
 | .dt kvs=>∃xs,H a=some (.dT xs)∧Nl K H kvs xs
 | .dead=>∃u,H a=some u
structure Sim (μ:Sto):Prop where
 len:ι.length=μ.length
 nd:ι.Nodup
 obj:∀(n:Nat) a o,ι[n]? = some a→μ[n]? = some o→OIs K ι H a o
noncomputable def g8 (σ:Sl) (σv:St):Prop:=∀(i:Nat) d,σ[i]? = some (some d)→∃v,σv[i]? = some (some v)∧IsD K ι H d v
end
section
variable {K : PySem.W.Frag} {ι ι' : List Addr} {H H' : Hp} {μ : Sto} {σ : Sl} {σv : St}
theorem g8.mono (h:g8 K ι H σ σv) (hp:ι <+: ι') (he:Ext H H'):g8 K ι' H' σ σv:=fun i d e=>by
 obtain⟨v,q,r⟩:=h i d e
 exact⟨v,q,IsD.mono hp he d v r⟩
theorem g8.set (h:g8 K ι H σ σv) (hl:σ.length=σv.length) {i:Nat} {d:D} {v:V} (hd:IsD K ι H d v):g8 K ι H (σ.set i (some d)) (σv.set i (some v)):=fun j e q=>by
 by_cases hj:i=j
 ·subst hj
  by_cases hi:i<σ.length
  ·rw[CM hi]at q
   cases q
   exact⟨v,by rw[CM (by lia)],hd⟩
  ·rw[DO (by simp;lia)]at q;cases q
 ·rw[BY hj]at q
  obtain⟨w,q1,q2⟩:=h j e q
  exact⟨w,by rw[BY hj];exact q1,q2⟩
theorem OIs.ne (h:OIs K ι H a o):∃u,H a=some u:=by
 cases o with
 | l ds=>obtain⟨xs,e,_⟩:=h;exact⟨_,e⟩
 | r ds=>obtain⟨xs,e,_⟩:=h;exact⟨_,e⟩
 | d kvs=>obtain⟨xs,e,_⟩:=h;exact⟨_,e⟩
 | dt kvs=>obtain⟨xs,e,_⟩:=h;exact⟨_,e⟩
 | dead=>exact h
theorem OIs.mono {a:Addr} {o:O} (h:OIs K ι H a o) (hp:ι <+: ι') (he:Ext H H') (ha:H' a=H a):OIs K ι' H' a o:=by
 cases o with
 | l ds=>obtain⟨xs,e,q⟩:=h;exact⟨xs,ha.trans e,ae.mono (AH _) he ds xs q⟩
 | r ds=>obtain⟨xs,e,q⟩:=h;exact⟨xs,ha.trans e,ae.mono hp he ds xs q⟩
 | d kvs =>
  obtain⟨xs,e,q⟩:=h
  exact⟨xs,ha.trans e,Paired.mapP q fun p r z=>⟨IsD.mono (AH _) he _ _ z.1,IsD.mono (AH _) he _ _ z.2⟩⟩
 | dt kvs =>
  obtain⟨xs,e,q⟩:=h
  exact⟨xs,ha.trans e,Paired.mapP q fun p r z=>⟨let ⟨ds,e,t⟩:=z.1;⟨ds,e,ae.mono (AH _) he _ _ t⟩,IsD.mono (AH _) he _ _ z.2⟩⟩
 | dead=>obtain⟨u,e⟩:=h;exact⟨u,ha.trans e⟩
theorem Sim.at (h:Sim K ι H μ) {n:Nat} {o:O} (e:μ[n]? = some o):∃a,ι[n]? = some a∧OIs K ι H a o:=by
 have hn:n<ι.length:=by rw[h.len];exact(AK.mp e).1
 exact⟨ι[n],AC hn,h.obj n _ o (AC hn) e⟩
theorem Sim.used (h:Sim K ι H μ) {n:Nat} {a:Addr} (e:ι[n]? = some a):∃u,H a=some u:=by
 have hn:n<μ.length:=by rw[←h.len];exact(AK.mp e).1
 exact(h.obj n a _ e (AC hn)).ne
theorem Sim.new (h:Sim K ι H μ) {p:Addr} {o:HO} (hp:H p=none):Sim K ι (upd H p o) μ :=
 ⟨h.len,h.nd,fun n a ob e1 e2=>by
  obtain⟨u,hu⟩:=h.used e1
  exact(h.obj n a ob e1 e2).mono (AH _) (.new hp) (ai (aq hu hp))⟩
theorem Sim.push (h:Sim K ι H μ) {p:Addr} {u:HO} {o:O} (hp:H p=none) (ho:OIs K (ι++[p]) (upd H p u) p o):Sim K (ι++[p]) (upd H p u) (μ++[o]):=by
 have hne:∀a∈ι,a≠p:=fun a ha z=>by
  obtain⟨n,hn,e⟩:=ET.mp ha
  obtain⟨u,hu⟩:=h.used (n:=n) (by rw[AC hn,e])
  rw[z,hp]at hu;cases hu
 refine⟨by simp[h.len],?_,fun n a ob e1 e2=>?_⟩
 ·refine FR.mpr ⟨h.nd,by simp,?_⟩
  intro a ha b hb
  have:b=p:=by simpa using hb
  subst this
  exact hne a ha
 ·by_cases hn:n<ι.length
  ·rw[AR hn]at e1
   rw[AR (by rw[←h.len];exact hn)]at e2
   exact(h.obj n a ob e1 e2).mono ⟨[p],rfl⟩ (.new hp) (ai (hne a (DS e1)))
  ·have hm:n=ι.length:=by
    have:=(AK.mp e1).1
    simp at this;lia
   subst hm
   simp at e1
   rw[h.len]at e2
   simp at e2
   subst e1;subst e2
   exact ho
theorem Sim.put (h:Sim K ι H μ) {n:Nat} {p:Addr} {u:HO} {o:O} (hn:ι[n]? = some p) (he:Ext H (upd H p u)) (ho:OIs K ι (upd H p u) p o):Sim K ι (upd H p u) (μ.set n o):=by
 refine⟨by simp[h.len],h.nd,fun k a ob e1 e2=>?_⟩
 by_cases hk:n=k
 ·subst hk
  rw[hn]at e1;cases e1
  have:n<μ.length:=by rw[←h.len];exact(AK.mp hn).1
  rw[CM this]at e2;cases e2
  exact ho
 ·rw[BY hk]at e2
  refine(h.obj k a ob e1 e2).mono (AH _) he (ai fun z=>hk ?_)
  subst z
  obtain⟨h1,e1'⟩:=AK.mp e1
  obtain⟨h2,e2'⟩:=AK.mp hn
  exact(List.getElem_inj h.nd).mp (e2'.trans e1'.symm)
end
end Lp
namespace Lp
open PySem PySem.Spec PyProof.Rows L2
noncomputable def c6 {α β:Type} (K:PySem.W.Frag) (R:List Addr→Hp→α→β→Prop) (ι:List Addr) (H:Hp) (r:Res α) (Q:β→Hp→Prop):Prop:=match r with
 | .ok d μ'=>∀ι' v H',ι <+: ι'→Ext H H'→Sim K ι' H' μ'→R ι' H' d v→Q v H'
 | .exc _ _ _=>False
 | .stuck=>False
noncomputable abbrev RD (K:PySem.W.Frag):List Addr→Hp→D→V→Prop:=fun ι H d v=>IsD K ι H d v
noncomputable abbrev RDs (K:PySem.W.Frag):List Addr→Hp→List D→List V→Prop:=fun ι H d v=>ae K ι H d v
noncomputable abbrev RB:List Addr→Hp→Bool→Bool→Prop:=fun _ _ d v=>d=v
noncomputable abbrev RO:List Addr→Hp→Option Int→Option Int→Prop:=fun _ _ d v=>d=v
section
variable {α β γ δ : Type} {K : PySem.W.Frag} {R : List Addr → Hp → α → β → Prop} {S : List Addr → Hp → γ → δ → Prop} {ι ι' : List Addr} {H H' : Hp}
theorem c6.mono {r:Res α} {Q:β→Hp→Prop} (h:c6 K R ι H r Q) (hp:ι <+: ι') (he:Ext H H'):c6 K R ι' H' r Q:=by
 cases r with
 | ok d μ=>exact fun ι2 v H2 p e s q=>h ι2 v H2 (hp.trans p) (he.trans e) s q
 | exc _ _ _=>exact h
 | stuck=>exact h
theorem c6.imp {r:Res α} {Q Q':β→Hp→Prop} (h:c6 K R ι H r Q) (hq:∀v H',Q v H'→Q' v H'):c6 K R ι H r Q':=by
 cases r with
 | ok d μ=>exact fun ι2 v H2 p e s q=>hq _ _ (h ι2 v H2 p e s q)
 | exc _ _ _=>exact h
 | stuck=>exact h
theorem c6.ok {d:α} {μ:Sto} {v:β} {Q:β→Hp→Prop} (h:c6 K R ι H (.ok d μ) Q) (hs:Sim K ι H μ) (hr:R ι H d v):Q v H:=h ι v H (AH _) (.refl _) hs hr
theorem c6.bind {x:Res α} {f:α→Sto→Res γ} {Q:δ→Hp→Prop} (h:c6 K S ι H (x.bind f) Q) :
  ∃d μ1,x=.ok d μ1∧c6 K S ι H (f d μ1) Q:=by
 cases x with
 | ok d μ=>exact⟨d,μ,rfl,h⟩
 | exc _ _ _=>exact h.elim
 | stuck=>exact h.elim
end
noncomputable def tE (K:PySem.W.Frag) (φ:Phi) (x:Ex):TE:=fun σv H Q=>∃ι σ μ,Sim K ι H μ∧g8 K ι H σ σv∧c6 K (RD K) ι H (evE φ x σ μ) Q
noncomputable def tEs (K:PySem.W.Frag) (φ:Phi) (x:Exs):TA:=fun σv H Q=>∃ι σ μ,Sim K ι H μ∧g8 K ι H σ σv∧c6 K (RDs K) ι H (fi φ x σ μ) Q
noncomputable def tEo (K:PySem.W.Frag) (φ:Phi) (x:ExO):TO:=fun σv H Q=>∃ι σ μ,Sim K ι H μ∧g8 K ι H σ σv∧c6 K RO ι H (evO φ x σ μ) Q
noncomputable def tT (K:PySem.W.Frag) (φ:Phi) (x:Ex):TT:=fun σv H Q=>∃ι σ μ,Sim K ι H μ∧g8 K ι H σ σv∧c6 K RB ι H ((evE φ x σ μ).bind fun d μ=>K9 d μ) Q
theorem PE.imp {X:Cx} {e:Expr} {t t':TE} (h:PE X e t) (i:∀σ H Q,t' σ H Q→t σ H Q):PE X e t':=fun pins s σ H Q I q=>h pins s σ H Q I (i σ H Q q)
theorem PA.imp {X:Cx} {e:List Expr} {t t':TA} (h:PA X e t) (i:∀σ H Q,t' σ H Q→t σ H Q):PA X e t':=fun pos pins s σ H Q I q=>h pos pins s σ H Q I (i σ H Q q)
theorem PT.imp {X:Cx} {e:Expr} {t t':TT} (h:PT X e t) (i:∀σ H Q,t' σ H Q→t σ H Q):PT X e t':=fun pins s σ H Q I q=>h pins s σ H Q I (i σ H Q q)
theorem PW.imp {X:Cx} {e:Expr} {t t':TT} (h:PW X e t) (i:∀σ H Q,t' σ H Q→t σ H Q):PW X e t':=fun wh pins s σ H Q I q=>h wh pins s σ H Q I (i σ H Q q)
section
variable {X : Cx} {φ : Phi} {a b c : Expr} {xa xb xc : Ex} {pos : Pos}
theorem Io {i:Nat} {x:Str} (hN:X.N[i]? = some x) (hv:Vis X.env.scope x) (hd:(x==("__debug__":Str))=false) (hcd:(x==("__classdict__":Str))=false):PE X (.Name x pos) (tE X.K φ (.var i)) :=
 PE.imp (vf hN hv hd hcd) fun σv H Q ⟨ι,σ,μ,hS,hL,h⟩=>by
  simp only[evE]at h
  split at h
  ·rename_i d e
   obtain⟨v,e1,e2⟩:=hL i d e
   exact⟨v,e1,h.ok hS e2⟩
  ·exact h.elim
theorem Ip {i:Int} {j:Nat}:PE X (.Constant (.int i) j pos) (tE X.K φ (.cst (.int i))) :=
 PE.imp Ea fun σv H Q ⟨ι,σ,μ,hS,hL,h⟩=>by simp only[evE]at h;exact h.ok hS (by simp[IsD])
theorem Nm {i:Bool} {j:Nat}:PE X (.Constant (.bool i) j pos) (tE X.K φ (.cst (.bl i))) :=
 PE.imp Hk fun σv H Q ⟨ι,σ,μ,hS,hL,h⟩=>by simp only[evE]at h;exact h.ok hS (by simp[IsD])
theorem Iq {j:Nat}:PE X (.Constant .none j pos) (tE X.K φ (.cst .non)) :=
 PE.imp Eb fun σv H Q ⟨ι,σ,μ,hS,hL,h⟩=>by simp only[evE]at h;exact h.ok hS (by simp[IsD])
theorem two {σv:St} {H:Hp} {ι:List Addr} {σ:Sl} {μ:Sto} {f:D→D→Sto→Res D} {Q:VK} {R:V→V→Hp→Prop} (hS:Sim X.K ι H μ) (hL:g8 X.K ι H σ σv)
  (h:c6 X.K (RD X.K) ι H ((evE φ xa σ μ).bind fun x μ=>(evE φ xb σ μ).bind fun y μ=>f x y μ) Q)
  (k:∀ι' H' d e x y μ',Sim X.K ι' H' μ'→IsD X.K ι' H' d x→IsD X.K ι' H' e y→c6 X.K (RD X.K) ι' H' (f d e μ') Q→R x y H') :
  tE X.K φ xa σv H fun x H1=>tE X.K φ xb σv H1 fun y H2=>R x y H2:=by
 obtain⟨d,μ1,e1,h⟩:=h.bind
 refine⟨ι,σ,μ,hS,hL,?_⟩
 rw[e1]
 intro ι1 x H1 p1 x1 s1 d1
 obtain⟨e,μ2,e2,h⟩:=h.bind
 refine⟨ι1,σ,μ1,s1,hL.mono p1 x1,?_⟩
 rw[e2]
 intro ι2 y H2 p2 x2 s2 d2
 exact k ι2 H2 d e x y μ2 s2 (IsD.mono p2 x2 d x d1) d2 (h.mono (p1.trans p2) (x1.trans x2))
noncomputable def rOp (K:PySem.W.Frag) (f:D→D→Sto→Res D):R2:=fun x y H Q=>∃ι d e μ,Sim K ι H μ∧IsD K ι H d x∧IsD K ι H e y∧c6 K (RD K) ι H (f d e μ) Q
theorem Ir {op:Operator} {m:Mk} (ho:OpR X (binaryOp op) (rOp X.K (opD op m))) (ha:PE X a (tE X.K φ xa)) (hb:PE X b (tE X.K φ xb)):PE X (.BinOp a op b pos) (tE X.K φ (.bin op m xa xb)) :=
 PE.imp (Ht ho ha hb) fun σv H Q ⟨ι,σ,μ,hS,hL,h⟩=>by
  simp only[evE]at h
  exact two hS hL h fun ι' H' d e x y μ' s d1 d2 p=>⟨ι',d,e,μ',s,d1,d2,p⟩
theorem Nn (ho:IxR X (rOp X.K ixD)) (ha:PE X a (tE X.K φ xa)) (hb:PE X b (tE X.K φ xb)) (hs:p8 b):PE X (.Subscript a b pos) (tE X.K φ (.ix xa xb)) :=
 PE.imp (Ig ho ha hb hs) fun σv H Q ⟨ι,σ,μ,hS,hL,h⟩=>by
  simp only[evE]at h
  exact two hS hL h fun ι' H' d e x y μ' s d1 d2 p=>⟨ι',d,e,μ',s,d1,d2,p⟩
theorem Cr:PA X [] (tEs X.K φ .nil) :=
 PA.imp A7 fun σv H Q ⟨ι,σ,μ,hS,hL,h⟩=>by simp only[fi]at h;exact h.ok hS (by simp[ae])
theorem rq {es:List Expr} {xs:Exs} (ha:PE X a (tE X.K φ xa)) (hb:PA X es (tEs X.K φ xs)) (hs:starEach (a::es) X.env=(false,eval a X.env)::starEach es X.env):PA X (a::es) (tEs X.K φ (.cons xa xs)) :=
 PA.imp (p6 ha hb hs) fun σv H Q ⟨ι,σ,μ,hS,hL,h⟩=>by
  simp only[fi]at h
  obtain⟨d,μ1,e1,h⟩:=h.bind
  refine⟨ι,σ,μ,hS,hL,?_⟩
  rw[e1]
  intro ι1 x H1 p1 x1 s1 d1
  obtain⟨e,μ2,e2,h⟩:=h.bind
  refine⟨ι1,σ,μ1,s1,hL.mono p1 x1,?_⟩
  rw[e2]
  intro ι2 y H2 p2 x2 s2 d2
  refine h ι2 (x::y) H2 (p1.trans p2) (x1.trans x2) s2 ?_
  show ae _ _ _ _ _
  simp only[ae]
  exact⟨x,y,rfl,IsD.mono p2 x2 d x d1,d2⟩
theorem Iu {es:List Expr} {xs:Exs} {k:Nat} (h:PA X es (tEs X.K φ xs)) (hl:∀σ μ ds μ',fi φ xs σ μ=.ok ds μ'→ds.length≤sizeLine):PE X (.Tuple es k pos) (tE X.K φ (.tup xs)) :=
 PE.imp (Er h) fun σv H Q ⟨ι,σ,μ,hS,hL,h⟩=>by
  simp only[evE]at h
  obtain⟨ds,μ1,e1,h⟩:=h.bind
  refine⟨ι,σ,μ,hS,hL,?_⟩
  rw[e1]
  intro ι1 vs H1 p1 x1 s1 d1
  have hd:ae X.K ι1 H1 ds vs:=d1
  refine⟨by rw[hd.length];exact hl σ μ ds μ1 e1,fun p hp=>?_⟩
  refine h ι1 (.ref p) (upd H1 p (.tup vs)) p1 (x1.trans (.new hp)) (s1.new hp) ?_
  show IsD _ _ _ _ _
  simp only[IsD]
  exact⟨p,vs,rfl,.of au,ae.mono (AH _) (.new hp) ds vs d1⟩
theorem Iv {x:Ex} {σv:St} {H:Hp} {Q:Bool→Hp→Prop} (h:tT X.K φ x σv H Q):tE X.K φ x σv H fun v H'=>∃k,v=.bl k∧Q k H':=by
 obtain⟨ι,σ,μ,hS,hL,h⟩:=h
 obtain⟨d,μ1,e1,h⟩:=h.bind
 refine⟨ι,σ,μ,hS,hL,?_⟩
 rw[e1]
 intro ι1 x H1 p1 x1 s1 d1
 cases d with
 | bl k=>exact⟨k,by simpa[IsD]using d1,h ι1 k H1 p1 x1 s1 rfl⟩
 | _=>exact h.elim
theorem Cs {x:Ex} (ha:PE X a (tE X.K φ x)) (he:∀whole,isTrue a X.env whole=(do let v ←whole;standAt a.pos;holding [v] (truthy v))):PT X a (tT X.K φ x) :=
 PT.imp (zm ha he) fun σv H Q h=>by
  have q:=Iv h
  obtain⟨ι,σ,μ,hS,hL,q⟩:=q
  exact⟨ι,σ,μ,hS,hL,q.imp fun v H' ⟨k,e,z⟩=>⟨k,by subst e;exact rfl,z⟩⟩
theorem Ff (ha:PT X a (tT X.K φ xa)):PT X (.UnaryOp .Not a pos) (tT X.K φ (.not xa)) :=
 PT.imp (Ee ha) fun σv H Q ⟨ι,σ,μ,hS,hL,h⟩=>by
  simp only[evE]at h
  rw[Res.bind_assoc]at h
  obtain⟨d,μ1,e1,h⟩:=h.bind
  refine⟨ι,σ,μ,hS,hL,?_⟩
  rw[e1]
  cases d with
  | bl k=>exact fun ι1 x H1 p1 x1 s1 d1=>h ι1 (!x) H1 p1 x1 s1 (by cases d1;rfl)
  | _=>exact h.elim
theorem Fg (ha:PE X a (tE X.K φ xa)):PE X (.UnaryOp .Not a pos) (tE X.K φ (.not xa)) :=
 PE.imp (Eh ha) fun σv H Q ⟨ι,σ,μ,hS,hL,h⟩=>by
  simp only[evE]at h
  obtain⟨d,μ1,e1,h⟩:=h.bind
  refine⟨ι,σ,μ,hS,hL,?_⟩
  rw[e1]
  intro ι1 x H1 p1 x1 s1 d1
  cases d with
  | bl k=>exact⟨k,by simpa[IsD]using d1,h ι1 (.bl !k) H1 p1 x1 s1 (by simp[IsD])⟩
  | _=>exact h.elim
theorem Iw (ha:PE X a (tE X.K φ xa)):PE X (.UnaryOp .USub a pos) (tE X.K φ (.neg xa)) :=
 PE.imp (Hu En ha) fun σv H Q ⟨ι,σ,μ,hS,hL,h⟩=>by
  simp only[evE]at h
  obtain⟨d,μ1,e1,h⟩:=h.bind
  refine⟨ι,σ,μ,hS,hL,?_⟩
  rw[e1]
  intro ι1 x H1 p1 x1 s1 d1
  cases d with
  | int k=>exact⟨k,by simpa[IsD]using d1,h ι1 (.int (-k)) H1 p1 x1 s1 (by simp[IsD])⟩
  | _=>exact h.elim
theorem Fh {rest:List Expr} (ha:PE X a (tE X.K φ xa)) (hb:PE X (.BoolOp .And (b::rest) pos) (tE X.K φ xb)):PE X (.BoolOp .And (a::b::rest) pos) (tE X.K φ (.and xa xb)) :=
 PE.imp (Eg ha hb) fun σv H Q ⟨ι,σ,μ,hS,hL,h⟩=>by
  simp only[evE]at h
  obtain⟨d,μ1,e1,h⟩:=h.bind
  refine⟨ι,σ,μ,hS,hL,?_⟩
  rw[e1]
  intro ι1 x H1 p1 x1 s1 d1
  cases d with
  | bl k =>
   refine⟨k,by simpa[IsD]using d1,?_⟩
   cases k with
   | true=>exact⟨ι1,σ,μ1,s1,hL.mono p1 x1,(show c6 _ _ _ _ (evE φ xb σ μ1) _ from h).mono p1 x1⟩
   | false=>exact h ι1 (.bl false) H1 p1 x1 s1 (by simp[IsD])
  | _=>exact h.elim
theorem Fi {rest:List Expr} (ha:PT X a (tT X.K φ xa)) (hb:PW X (.BoolOp .And (b::rest) pos) (tT X.K φ xb)):PW X (.BoolOp .And (a::b::rest) pos) (tT X.K φ (.and xa xb)) :=
 PW.imp (Ed ha hb) fun σv H Q ⟨ι,σ,μ,hS,hL,h⟩=>by
  simp only[evE]at h
  rw[Res.bind_assoc]at h
  obtain⟨d,μ1,e1,h⟩:=h.bind
  refine⟨ι,σ,μ,hS,hL,?_⟩
  rw[e1]
  cases d with
  | bl k =>
   intro ι1 x H1 p1 x1 s1 d1
   cases d1
   cases k with
   | true=>exact⟨ι1,σ,μ1,s1,hL.mono p1 x1,(show c6 _ _ _ _ ((evE φ xb σ μ1).bind _) _ from h).mono p1 x1⟩
   | false=>exact h ι1 false H1 p1 x1 s1 rfl
  | _=>exact h.elim
theorem Iy {rest:List Expr} (ha:PT X a (tT X.K φ xa)) (hb:PW X (.BoolOp .Or (b::rest) pos) (tT X.K φ xb)):PW X (.BoolOp .Or (a::b::rest) pos) (tT X.K φ (.or xa xb)) :=
 PW.imp (Hl ha hb) fun σv H Q ⟨ι,σ,μ,hS,hL,h⟩=>by
  simp only[evE]at h
  rw[Res.bind_assoc]at h
  obtain⟨d,μ1,e1,h⟩:=h.bind
  refine⟨ι,σ,μ,hS,hL,?_⟩
  rw[e1]
  cases d with
  | bl k =>
   intro ι1 x H1 p1 x1 s1 d1
   cases d1
   cases k with
   | true=>exact h ι1 true H1 p1 x1 s1 rfl
   | false=>exact⟨ι1,σ,μ1,s1,hL.mono p1 x1,(show c6 _ _ _ _ ((evE φ xb σ μ1).bind _) _ from h).mono p1 x1⟩
  | _=>exact h.elim
end
end Lp
namespace Lp
open PySem PySem.Spec PyProof.Rows L2
noncomputable def fh (K:PySem.W.Frag) (ι:List Addr) (H:Hp) (r:Res Fl) (E:Ends):Prop:=match r with
 | .ok (.nx σ') μ'=>∀ι' σv H',ι <+: ι'→Ext H H'→Sim K ι' H' μ'→g8 K ι' H' σ' σv→σ'.length=σv.length→E.nx σv H'
 | .ok (.bk σ') μ'=>∀ι' σv H',ι <+: ι'→Ext H H'→Sim K ι' H' μ'→g8 K ι' H' σ' σv→σ'.length=σv.length→E.bk σv H'
 | .ok (.ct σ') μ'=>∀ι' σv H',ι <+: ι'→Ext H H'→Sim K ι' H' μ'→g8 K ι' H' σ' σv→σ'.length=σv.length→E.ct σv H'
 | .ok (.rt d) μ'=>∀ι' v H',ι <+: ι'→Ext H H'→Sim K ι' H' μ'→IsD K ι' H' d v→E.rt v H'
 | .exc _ _ _=>False
 | .stuck=>False
theorem fh.mono {K:PySem.W.Frag} {ι ι':List Addr} {H H':Hp} {r:Res Fl} {E:Ends} (h:fh K ι H r E) (hp:ι <+: ι') (he:Ext H H'):fh K ι' H' r E:=by
 cases r with
 | ok f μ=>cases f<;>exact fun ι2 v H2 p e=>h ι2 v H2 (hp.trans p) (he.trans e)
 | exc _ _ _=>exact h
 | stuck=>exact h
theorem fh.bind {α:Type} {K:PySem.W.Frag} {ι:List Addr} {H:Hp} {E:Ends} {x:Res α} {f:α→Sto→Res Fl} (h:fh K ι H (x.bind f) E):∃d μ1,x=.ok d μ1∧fh K ι H (f d μ1) E:=by
 cases x with
 | ok d μ=>exact⟨d,μ,rfl,h⟩
 | exc _ _ _=>exact h.elim
 | stuck=>exact h.elim
noncomputable def tS (K:PySem.W.Frag) (φ:Phi) (x:Sm):TS:=fun E σv H=>∃ι σ μ,Sim K ι H μ∧g8 K ι H σ σv∧σ.length=σv.length∧fh K ι H (evS φ x σ μ) E
noncomputable def tSs (K:PySem.W.Frag) (φ:Phi) (x:Sms):TS:=fun E σv H=>∃ι σ μ,Sim K ι H μ∧g8 K ι H σ σv∧σ.length=σv.length∧fh K ι H (ik φ x σ μ) E
theorem PS.imp {X:Cx} {e:Stmt} {t t':TS} (h:PS X e t) (i:∀E σ H,t' E σ H→t E σ H):PS X e t':=fun pins s σ H E I q=>h pins s σ H E I (i E σ H q)
theorem PSs.imp {X:Cx} {e:List Stmt} {t t':TS} (h:PSs X e t) (i:∀E σ H,t' E σ H→t E σ H):PSs X e t':=fun pins s σ H E I q=>h pins s σ H E I (i E σ H q)
section
variable {X : Cx} {φ : Phi} {e : Expr} {x : Ex} {pos : Pos} {s : Stmt} {ss : List Stmt} {xs : Sm} {xss : Sms}
theorem Iz:PSs X [] (tSs X.K φ .nil) :=
 PSs.imp B0 fun E σv H ⟨ι,σ,μ,hS,hL,hl,h⟩=>by
  simp only[ik]at h
  exact h ι σv H (AH _) (.refl _) hS hL hl
theorem Fj (h1:PS X s (tS X.K φ xs)) (h2:PSs X ss (tSs X.K φ xss)):PSs X (s::ss) (tSs X.K φ (.cons xs xss)) :=
 PSs.imp (zj h1 h2) fun E σv H ⟨ι,σ,μ,hS,hL,hl,h⟩=>by
  simp only[ik]at h
  refine⟨ι,σ,μ,hS,hL,hl,?_⟩
  obtain⟨f,μ1,e1,h⟩:=h.bind
  rw[e1]
  cases f with
  | nx σ'=>exact fun ι1 σ1 H1 p1 x1 s1 l1 z1=>⟨ι1,σ',μ1,s1,l1,z1,(show fh _ _ _ (ik φ xss σ' μ1) _ from h).mono p1 x1⟩
  | rt d=>exact h
  | bk σ'=>exact h
  | ct σ'=>exact h
theorem Fk (he:PE X e (tE X.K φ x)) (hs:swapsWith e none pos.line X.env=pure false):PS X (.Expr e pos) (tS X.K φ (.ex x)) :=
 PS.imp (B3 he hs) fun E σv H ⟨ι,σ,μ,hS,hL,hl,h⟩=>by
  simp only[evS]at h
  obtain⟨d,μ1,e1,h⟩:=h.bind
  refine⟨ι,σ,μ,hS,hL,?_⟩
  rw[e1]
  exact fun ι1 v H1 p1 x1 s1 d1=>h ι1 σv H1 p1 x1 s1 (hL.mono p1 x1) hl
theorem I0 (he:PE X e (tE X.K φ x)):PS X (.Return (some e) pos) (tS X.K φ (.ret x)) :=
 PS.imp (Ei he) fun E σv H ⟨ι,σ,μ,hS,hL,hl,h⟩=>by
  simp only[evS]at h
  obtain⟨d,μ1,e1,h⟩:=h.bind
  refine⟨ι,σ,μ,hS,hL,?_⟩
  rw[e1]
  exact h
theorem Np {c:Expr} {xc:Ex} {a b:List Stmt} {xa xb:Sms} (hc:PT X c (tT X.K φ xc)) (ha:PSs X a (tSs X.K φ xa)) (hb:PSs X b (tSs X.K φ xb)):PS X (.If c a b pos) (tS X.K φ (.ite xc xa xb)) :=
 PS.imp (Hq hc ha hb) fun E σv H ⟨ι,σ,μ,hS,hL,hl,h⟩=>by
  simp only[evS]at h
  obtain⟨d,μ1,e1,h⟩:=h.bind
  refine⟨ι,σ,μ,hS,hL,?_⟩
  rw[e1]
  cases d with
  | bl k =>
   intro ι1 x H1 p1 x1 s1 d1
   cases d1
   cases k with
   | true=>exact⟨ι1,σ,μ1,s1,hL.mono p1 x1,hl,(show fh _ _ _ (ik φ xa σ μ1) _ from h).mono p1 x1⟩
   | false=>exact⟨ι1,σ,μ1,s1,hL.mono p1 x1,hl,(show fh _ _ _ (ik φ xb σ μ1) _ from h).mono p1 x1⟩
  | _=>exact h.elim
noncomputable def slots:Tg→List Nat
 | .one i=>[i]
 | .many is=>is
noncomputable def tG (K:PySem.W.Frag) (tg:Tg):TG:=fun v σv H Q=>∃ι σ d σ',g8 K ι H σ σv∧σ.length=σv.length∧IsD K ι H d v∧cz tg d σ=some σ' ∧
 ∀σv',g8 K ι H σ' σv'→σ'.length=σv'.length→σv'.length=σv.length→(∀j,j∉slots tg→σv'[j]? = σv[j]?)→Q σv' H
theorem PG.imp {e:Expr} {t t':TG} (h:PG X e t) (i:∀v σ H Q,t' v σ H Q→t v σ H Q):PG X e t':=by
 intro pins s σ H x u Q I r q
 exact h pins s σ H x u Q I r (i _ _ _ _ q)
theorem Fm {i:Nat} {y:Str} (hN:X.N.Nodup) (hi:X.N[i]? = some y) (hx:Loc X.env.scope y) (hf:X.fn y=true∨X.env.scope.names.lookup y=some .local):PG X (.Name y pos) (tG X.K (.one i)) :=
 PG.imp (vg hN hi hx hf) fun v σv H Q ⟨ι,σ,d,σ',hL,hl,hd,hb,q⟩=>by
  simp only[cz,BC]at hb
  subst hb
  exact q _ (hL.set hl hd) (by simp[hl]) (by simp) fun j hj=>BY (fun z=>hj (by simp[slots,z]))
noncomputable def tGs (K:PySem.W.Frag) (is:List Nat):TGs:=fun vs σv H Q=>∃ι σ ds,g8 K ι H σ σv∧σ.length=σv.length∧ae K ι H ds vs∧ds.length=is.length ∧
 ∀σv',g8 K ι H ((is.zip ds).foldl (fun s p=>s.set p.1 (some p.2)) σ) σv'→((is.zip ds).foldl (fun s p=>s.set p.1 (some p.2)) σ).length=σv'.length→σv'.length=σv.length→(∀j,j∉is→σv'[j]? = σv[j]?)→Q σv' H
theorem PGs.imp {es:List Expr} {t t':TGs} (h:PGs X es t) (i:∀v σ H Q,t' v σ H Q→t v σ H Q):PGs X es t':=by
 intro pins s σ H vs us Q I r q
 exact h pins s σ H vs us Q I r (i _ _ _ _ q)
theorem Fn:PGs X [] (tGs X.K []) :=
 PGs.imp B5 fun vs σv H Q ⟨ι,σ,ds,hL,hl,hd,hn,q⟩=>by
  have e:ds=[]:=EG.mp hn
  subst e
  exact⟨by simpa[ae]using hd,q σv (by simpa using hL) (by simpa using hl) rfl fun _ _=>rfl⟩
theorem Ct {i:Nat} {is:List Nat} {es:List Expr} (h1:PG X e (B4 i)) (h2:PGs X es (tGs X.K is)) (hs:(assignEach (e::es) X.env).map (·.2)=assign e X.env::(assignEach es X.env).map (·.2)):PGs X (e::es) (tGs X.K (i::is)) :=
 PGs.imp (zk h1 h2 hs) fun vs σv H Q ⟨ι,σ,ds,hL,hl,hd,hn,q⟩=>by
  cases ds with
  | nil=>simp at hn
  | cons d ds =>
   simp only[ae]at hd
   obtain⟨v,r,e,hd1,hd2⟩:=hd
   refine⟨v,r,e,ι,σ.set i (some d),ds,hL.set hl hd1,by simp[hl],hd2,by simpa using hn,fun σv' l z z2 ks=>q σv' (by simpa using l) (by simpa using z) (by simpa using z2) fun j hj=>?_⟩
   have hj':j≠i∧j∉is:=by simpa using hj
   rw[ks j hj'.2,BY (Ne.symm hj'.1)]
theorem Ja {is:List Nat} {es:List Expr} {k:Nat} (hc:X.calm=true) (h:PGs X es (tGs X.K is)) (hn:(assignEach es X.env).length=is.length) (hst:(assignEach es X.env).findIdx? (·.1)=none) :
  PG X (.Tuple es k pos) (tG X.K (.many is)) :=
 PG.imp (Ej hc h hn hst) fun v σv H Q ⟨ι,σ,d,σ',hL,hl,hd,hb,q⟩=>by
  cases d with
  | tup ds =>
   simp only[cz]at hb
   split at hb
   ·rename_i hlen
    cases hb
    simp only[IsD]at hd
    obtain⟨a,xs,e,hq,hds⟩:=hd
    exact⟨a,xs,e,hq,hds.length.trans hlen,ι,σ,ds,hL,hl,hds,hlen,q⟩
   ·cases hb
  | _=>simp[cz]at hb
theorem Jb {i:Nat} {y:Str} {pos':Pos} (hN:X.N.Nodup) (hi:X.N[i]? = some y) (hx:Loc X.env.scope y) (hf:X.fn y=true∨X.env.scope.names.lookup y=some .local) (he:PE X e (tE X.K φ x)) (hs:swapsWith e (some (.Name y pos')) pos.line X.env=pure false) :
  PS X (.Assign [.Name y pos'] e pos) (tS X.K φ (.set i x)) :=
 PS.imp (El hN hi hx he hs hf) fun E σv H ⟨ι,σ,μ,hS,hL,hl,h⟩=>by
  simp only[evS]at h
  obtain⟨d,μ1,e1,h⟩:=h.bind
  refine⟨ι,σ,μ,hS,hL,?_⟩
  rw[e1]
  exact fun ι1 v H1 p1 x1 s1 d1=>h ι1 _ H1 p1 x1 s1 ((hL.mono p1 x1).set hl d1) (by simp[hl])
theorem Jc {is:List Nat} {tg:Expr} (hg:PG X tg (tG X.K (.many is))) (he:PE X e (tE X.K φ x)) (hs:swapsWithSole [tg] e pos.line X.env=pure false) (hw:swappedStores [tg] e X.env=pure none)
  (h1:(assignEach [tg] X.env).map (·.2)=[assign tg X.env]):PS X (.Assign [tg] e pos) (tS X.K φ (.unp is x)) :=
 PS.imp (Ek he hg hs hw h1) fun E σv H ⟨ι,σ,μ,hS,hL,hl,h⟩=>by
  simp only[evS]at h
  obtain⟨d,μ1,e1,h⟩:=h.bind
  refine⟨ι,σ,μ,hS,hL,?_⟩
  rw[e1]
  intro ι1 v H1 p1 x1 s1 d1
  split at h
  ·rename_i σ' eb
   exact⟨ι1,σ,d,σ',hL.mono p1 x1,hl,d1,eb,fun σv' l z _ _=>h ι1 σv' H1 p1 x1 s1 l z⟩
  ·exact h.elim
structure Walk (K:PySem.W.Frag) (ι0:List Addr) (H0:Hp) (J:L2.It) (ds:List D) (g:Gd):Prop where
 len:ds.length≤sizeLine
 go:∀(i:Nat) ι H μ,ι0 <+: ι→Ext H0 H→Sim K ι H μ→gd g μ→i<ds.length→J.go i H
 yld:∀(i:Nat) ι H μ x H',ι0 <+: ι→Ext H0 H→Sim K ι H μ→gd g μ→i<ds.length→J.yld i H x H'→Ext H H'∧Sim K ι H' μ∧∃d,ds[i]? = some d∧IsD K ι H' d x
 stop:∀ι H μ,ι0 <+: ι→Ext H0 H→Sim K ι H μ→gd g μ→J.stop ds.length H
noncomputable def tI (K:PySem.W.Frag) (φ:Phi) (it:It):TI:=fun σv H R=>∃ι σ μ,Sim K ι H μ∧g8 K ι H σ σv ∧
 match evI φ it σ μ with
 | .ok (ds,g) μ'=>∀ι' H' J,ι <+: ι'→Ext H H'→Sim K ι' H' μ'→Walk K ι' H' J ds g→R J H'
 | _=>False
theorem PI.imp {tg it:Expr} {t t':TI} (h:PI X tg it t) (i:∀σ H R,t' σ H R→t σ H R):PI X tg it t':=fun pins s σ H R I q=>h pins s σ H R I (i _ _ _ q)
theorem Jd {tg it:Expr} {body:List Stmt} {xt:Tg} {xi:It} {xb:Sms} (hp:PassesOwn (model X.prog X.w) X.A X.env X.xe) (hc:X.calm=true) (hi:PI X tg it (tI X.K φ xi)) (hg:PG X tg (tG X.K xt)) (hb:PSs X body (tSs X.K φ xb))
  (hs:∀x,foldedSetIterable it X.env x=pure x):PS X (.For tg it body [] pos) (tS X.K φ (.loop xt xi xb)) :=
 PS.imp (Em hp hc hi hg hb hs) fun E σv H ⟨ι,σ,μ,hS,hL,hl,h⟩=>by
  simp only[evS]at h
  obtain⟨⟨ds,g⟩,μ1,e1,h⟩:=h.bind
  refine⟨ι,σ,μ,hS,hL,?_⟩
  rw[e1]
  intro ι1 H1 J p1 x1 s1 wk
  refine⟨fun i m σv' H'=>m=ds.length-i∧i≤ds.length∧∃ι' σ' μ',ι1 <+: ι'∧Ext H1 H'∧Sim X.K ι' H' μ'∧g8 X.K ι' H' σ' σv'∧σ'.length=σv'.length ∧
   fh X.K ι' H' (gx g (fun d σ μ=>gg (cz xt d σ) fun σ'=>ik φ xb σ' μ) (ds.drop i) σ' μ') E,⟨ds.length,by simp,FS _,ι1,σ,μ1,AH _,.refl _,s1,hL.mono p1 x1,hl,?_⟩,?_⟩
  ·simpa using(show fh _ _ _ (gx g _ ds σ μ1) _ from h).mono p1 x1
  ·rintro i m σv' H' ⟨rfl,hi,ι',σ',μ',p',x',s',l',z',h'⟩
   by_cases hlt:i<ds.length
   ·obtain⟨d,ed⟩:∃d,ds[i]? = some d:=⟨ds[i],AC hlt⟩
    have edrop:ds.drop i=d::ds.drop (i+1):=by
     rw[FM hlt]
     rw[AC hlt]at ed
     cases ed;rfl
    rw[edrop]at h'
    simp only[gx]at h'
    split at h'
    ·rename_i hgd
     right
     refine⟨wk.go i ι' H' μ' p' x' s' hgd hlt,?_⟩
     obtain⟨fl,μ2,e2,h2⟩:=h'.bind
     refine⟨fun σ2 H2=>ds.length-(i+1)<ds.length-i∧∃ι2 σs,ι1 <+: ι2∧Ext H1 H2∧Sim X.K ι2 H2 μ2∧g8 X.K ι2 H2 σs σ2∧σs.length=σ2.length ∧
      fh X.K ι2 H2 (gx g (fun d σ μ=>gg (cz xt d σ) fun σ'=>ik φ xb σ' μ) (ds.drop (i+1)) σs μ2) E,?_,?_⟩
     ·rintro σ2 H2 ⟨_,ι2,σs,q1,q2,q3,q4,q5,q6⟩
      exact⟨ds.length-(i+1),by lia,rfl,hlt,ι2,σs,μ2,q1,q2,q3,q4,q5,q6⟩
     ·intro v H2 hy
      obtain⟨x2,s2,d',ed',hd'⟩:=wk.yld i ι' H' μ' v H2 p' x' s' hgd hlt hy
      rw[ed]at ed';cases ed'
      cases eb:cz xt d σ' with
      | none=>rw[eb]at e2;cases e2
      | some σb =>
       rw[eb]at e2
       refine⟨ι',σ',d,σb,l'.mono (AH _) x2,z',hd',eb,fun σv2 l2 z2 _ _=>⟨ι',σb,μ',s2,l2,z2,?_⟩⟩
       have e2':ik φ xb σb μ'=.ok fl μ2:=e2
       rw[e2']
       cases fl with
       | nx σ3=>exact fun ι3 σv3 H3 p3 x3 s3 l3 z3=>⟨by lia,ι3,σ3,p'.trans p3,(x'.trans x2).trans x3,s3,l3,z3,(show fh _ _ _ (gx g _ (ds.drop (i+1)) σ3 μ2) _ from h2).mono p3 (x2.trans x3)⟩
       | ct σ3=>exact fun ι3 σv3 H3 p3 x3 s3 l3 z3=>⟨by lia,ι3,σ3,p'.trans p3,(x'.trans x2).trans x3,s3,l3,z3,(show fh _ _ _ (gx g _ (ds.drop (i+1)) σ3 μ2) _ from h2).mono p3 (x2.trans x3)⟩
       | bk σ3=>exact(show fh _ _ _ (.ok (.nx σ3) μ2) _ from h2).mono (AH _) x2
       | rt w=>exact(show fh _ _ _ (.ok (.rt w) μ2) _ from h2).mono (AH _) x2
    ·exact h'.elim
   ·have ei:i=ds.length:=by lia
    subst ei
    simp only[List.drop_length,gx]at h'
    split at h'
    ·rename_i hgd
     exact .inl ⟨wk.stop ι' H' μ' p' x' s' hgd,h' ι' σv' H' (AH _) (.refl _) s' l' z'⟩
    ·exact h'.elim
end
end Lp
namespace Lp
open PySem PySem.Spec PyProof.Rows L2
theorem f6:lim=sizeLine:=by rw[Bb];rfl
section
variable {X : Cx} {pins : List (Addr × Obj)} {σ : St} {H : Hp} {s : Shared} {φ : Phi}
theorem _root_.L2.Inv.freeze {p:Addr} {xs:List V} (I:Inv X pins σ H s) (h:H p=some (.lst xs)):∃o,Inv X pins σ (upd H p (.frz o (.lst xs))) s:=by
 have hp:=I.hok p _ h
 obtain⟨hz,its,n,hv,hget⟩:=id hp
 refine⟨{cls:=.type "list",data:=.seq its.toArray n},I.ok,I.os,I.bare,⟨I.base.keep,I.base.slot,fun b o e hn hx=>?_,I.base.there,fun b ys e=>?_,fun b o u e=>?_,fun b ps e=>?_⟩,I.loc,I.cell,?_,fun x c e=>?_,fun q hq=>?_,fun b u e=>?_,I.len⟩
 ·have q:=I.base.free b o e hn hx
  rw[ai (fun z=>by subst z;rw[h]at q;cases q)]
  exact q
 ·have q:=I.base.tups b ys e
  rw[ai (p5 q h (by intro z;cases z))];exact q
 ·have q:=I.base.frzs b o u e
  rw[ai (p5 q h (by intro z;cases z))];exact q
 ·obtain⟨more,q⟩:=I.base.tbls b ps e
  exact⟨more,by rw[ai (p5 q h (by intro z;cases z))];exact q⟩
 ·rw[ai (fun z=>by rw[←z,I.free]at h;cases h)];exact I.free
 ·rw[ai (fun z=>by rw[←z,I.freeC x c e]at h;cases h)];exact I.freeC x c e
 ·obtain⟨e1,e2,e3⟩:=I.pin q hq
  refine⟨e1,?_,e3⟩
  rw[ai (fun z=>by rw[←z,e2]at h;cases h)];exact e2
 ·by_cases hb:b=p
  ·subst hb
   rw[au]at e;cases e
   exact⟨hget,hz,its,n,hv,hget⟩
  ·rw[ai hb]at e
   refine(I.hok b u e).stay (fun c v _ q=>q) (fun c q=>?_) (fun c ys q=>?_)
   ·rw[ai (p5 q h (by intro z;cases z))];exact q
   ·rw[ai (p5 q h (by intro z;cases z))];exact q
noncomputable def FQ (Q:VK):VK:=fun v H=>Q v H∨∃p xs,v=.ref p∧H p=some (.lst xs)∧∀o,Q v (upd H p (.frz o (.lst xs)))
theorem zz {Q:VK} {u:Value} (h:EP X pins σ (FQ Q) u s):EP X pins σ Q u s:=by
 obtain⟨v,H',I,r,q⟩:=h
 rcases q with q | ⟨p,xs,rfl,e,q⟩
 ·exact⟨v,H',I,r,q⟩
 ·obtain⟨o,I'⟩:=L2.Inv.freeze I e
  exact⟨_,_,I',r,q o⟩
theorem v9 {A:Around} {E:Value→Shared→Prop} {M:Model} {t:Sem Value} {Q:VK} (h:wpAny M A t (EP X pins σ (FQ Q)) E s):wpAny M A t (EP X pins σ Q) E s:=thn h fun _ _ z=>zz z
theorem PE.fq {e:Expr} {t:TE} (h:PE X e t):PE X e (fun σ H Q=>t σ H (FQ Q)):=fun pins s σ H Q I q=>thn (h pins s σ H _ I q) fun _ _ z=>zz z
theorem bx.fq {f:Value} {r:List V→Hp→VK→Prop} (h:bx X f r):bx X f (fun xs H Q=>r xs H (FQ Q)):=by
 intro pins s σ H xs us Q I rx q
 exact thn (h pins s σ H xs us _ I rx q) fun _ _ z=>zz z
theorem SlR.fq {r:V→Option Int→Option Int→Hp→VK→Prop} (h:SlR X r):SlR X (fun x l u H Q=>r x l u H (FQ Q)):=by
 intro pins s σ H x v vl vu lo hi sl Q I rx h1 h2 h3 q
 obtain⟨T,id,e1,e2,e3⟩:=h pins s σ H x v vl vu lo hi sl _ I rx h1 h2 h3 q
 exact⟨T,id,e1,e2,thn e3 fun _ _ z=>zz z⟩
theorem gj {K:PySem.W.Frag} {ι:List Addr} {μ:Sto} {ds:List D} {xs:List V} {m:Mk} {Q:VK} {p:Addr} (hS:Sim K ι H μ) (hd:ae K ι H ds xs) (h:c6 K (RD K) ι H (mkL m ds μ) Q) (hp:H p=none) :
  FQ Q (.ref p) (upd H p (.lst xs)):=by
 cases m with
 | z =>
  refine .inr ⟨p,xs,rfl,au,fun o=>?_⟩
  rw[Bu]
  refine h ι (.ref p) _ (AH _) (.new hp) (hS.new hp) ?_
  show IsD _ _ _ _ _
  simp only[IsD]
  exact⟨p,xs,rfl,.inl ⟨o,au⟩,ae.mono (AH _) (.new hp) ds xs hd⟩
 | l =>
  simp only[mkL]at h
  split at h
  ·rename_i hpure
   refine .inl (h (ι++[p]) (.ref p) _ ⟨[p],rfl⟩ (.new hp) (hS.push hp ⟨xs,au,ae.pur hpure (ae.mono (AH _) (.new hp) ds xs hd)⟩) ?_)
   show IsD _ _ _ _ _
   simp only[IsD]
   exact⟨p,rfl,by rw[←hS.len];simp⟩
  ·exact h.elim
 | r =>
  simp only[mkL]at h
  refine .inl (h (ι++[p]) (.ref p) _ ⟨[p],rfl⟩ (.new hp) (hS.push hp ⟨xs,au,ae.mono ⟨[p],rfl⟩ (.new hp) ds xs hd⟩) ?_)
  show IsD _ _ _ _ _
  simp only[IsD]
  exact⟨p,rfl,by rw[←hS.len];simp⟩
theorem Je {es:List Expr} {xs:Exs} {m:Mk} {pos:Pos} (h:PA X es (tEs X.K φ xs)) (hl:∀σ μ ds μ',fi φ xs σ μ=.ok ds μ'→ds.length≤sizeLine):PE X (.List es pos) (tE X.K φ (.lst m xs)) :=
 PE.imp (PE.fq (Es h)) fun σv H Q ⟨ι,σ,μ,hS,hL,h⟩=>by
  simp only[evE]at h
  obtain⟨ds,μ1,e1,h⟩:=h.bind
  refine⟨ι,σ,μ,hS,hL,?_⟩
  rw[e1]
  intro ι1 vs H1 p1 x1 s1 d1
  have hd:ae X.K ι1 H1 ds vs:=d1
  exact⟨by rw[hd.length];exact hl σ μ ds μ1 e1,fun p hp=>gj s1 hd (h.mono p1 x1) hp⟩
theorem kg {K:PySem.W.Frag} {ι:List Addr} {μ:Sto} {d:D} {v:V} {ds:List D} (hS:Sim K ι H μ) (hd:IsD K ι H d v) (h:bg μ d=some ds) :
  ∃a xs,v=.ref a∧(LsL K H a xs∨SqT K H a xs)∧ae K ι H ds xs:=by
 cases d with
 | tup es =>
  cases h
  simp only[IsD]at hd
  obtain⟨a,xs,e,q,r⟩:=hd
  exact⟨a,xs,e,.inr q,r⟩
 | lst es =>
  cases h
  simp only[IsD]at hd
  obtain⟨a,xs,e,q,r⟩:=hd
  exact⟨a,xs,e,.inl (.inr q),r⟩
 | loc n =>
  simp only[IsD]at hd
  obtain⟨a,e,q⟩:=hd
  simp only[bg]at h
  split at h
  ·rename_i es em
   cases h
   obtain⟨a',q',ho⟩:=hS.at em
   rw[q]at q';cases q'
   obtain⟨xs,e1,e2⟩:=ho
   exact⟨a,xs,e,.inl (.inl e1),ae.mono (CF) (.refl _) _ _ e2⟩
  ·rename_i es em
   cases h
   obtain⟨a',q',ho⟩:=hS.at em
   rw[q]at q';cases q'
   obtain⟨xs,e1,e2⟩:=ho
   exact⟨a,xs,e,.inl (.inl e1),e2⟩
  ·cases h
 | _=>simp[bg]at h
theorem fj {K:PySem.W.Frag} {ι:List Addr} {μ:Sto} {d:D} {v:V} {ds:List D} (hS:Sim K ι H μ) (hd:IsD K ι H d v) (h:listOf μ d=some ds) :
  ∃a xs,v=.ref a∧LsL K H a xs∧ae K ι H ds xs:=by
 cases d with
 | lst es =>
  cases h
  simp only[IsD]at hd
  obtain⟨a,xs,e,q,r⟩:=hd
  exact⟨a,xs,e,.inr q,r⟩
 | loc n =>
  simp only[IsD]at hd
  obtain⟨a,e,q⟩:=hd
  simp only[listOf]at h
  split at h
  ·rename_i es em
   cases h
   obtain⟨a',q',ho⟩:=hS.at em
   rw[q]at q';cases q'
   obtain⟨xs,e1,e2⟩:=ho
   exact⟨a,xs,e,.inl e1,ae.mono (CF) (.refl _) _ _ e2⟩
  ·rename_i es em
   cases h
   obtain⟨a',q',ho⟩:=hS.at em
   rw[q]at q';cases q'
   obtain⟨xs,e1,e2⟩:=ho
   exact⟨a,xs,e,.inl e1,e2⟩
  ·cases h
 | _=>simp[listOf]at h
theorem Jf {i:Nat} {x:Str} {pos:Pos} (hN:X.N[i]? = some x) (hv:Vis X.env.scope x) (hd:(x==("__debug__":Str))=false) (hcd:(x==("__classdict__":Str))=false):PE X (.Name x pos) (tE X.K φ (.frz i)) :=
 PE.imp (PE.fq (vf hN hv hd hcd)) fun σv H Q ⟨ι,σ,μ,hS,hL,h⟩=>by
  simp only[evE]at h
  split at h
  ·rename_i n e
   obtain⟨v,e1,e2⟩:=hL i _ e
   refine⟨v,e1,?_⟩
   simp only[IsD]at e2
   obtain⟨a,rfl,ha⟩:=e2
   split at h
   ·rename_i ds em
    obtain⟨a',q',ho⟩:=hS.at em
    rw[ha]at q';cases q'
    obtain⟨xs,f1,f2⟩:=ho
    refine .inr ⟨a,xs,rfl,f1,fun o=>?_⟩
    refine h ι (.ref a) _ (AH _) (.lst f1) (hS.put ha (.lst f1) ⟨_,au⟩) ?_
    show IsD _ _ _ _ _
    simp only[IsD]
    exact⟨a,xs,rfl,.inl ⟨o,au⟩,ae.mono (CF) (.lst f1) ds xs f2⟩
   ·rename_i ds em
    obtain⟨a',q',ho⟩:=hS.at em
    rw[ha]at q';cases q'
    obtain⟨xs,f1,f2⟩:=ho
    refine .inr ⟨a,xs,rfl,f1,fun o=>?_⟩
    refine h ι (.ref a) _ (AH _) (.lst f1) (hS.put ha (.lst f1) ⟨_,au⟩) ?_
    show IsD _ _ _ _ _
    simp only[IsD]
    exact⟨a,xs,rfl,.inl ⟨o,au⟩,ae.mono (AH _) (.lst f1) ds xs f2⟩
   ·exact h.elim
  ·exact h.elim
theorem OpR.imp {f:Value→Value→Sem Value} {r r':R2} (h:OpR X f r) (i:∀x y H Q,r' x y H Q→r x y H Q):OpR X f r':=fun pins s σ H x y v u Q I rx ry q=>h pins s σ H x y v u Q I rx ry (i _ _ _ _ q)
theorem IxR.imp {r r':R2} (h:IxR X r) (i:∀x y H Q,r' x y H Q→r x y H Q):IxR X r':=fun e1 e2 pins s σ H x y v u Q I rx ry q=>h e1 e2 pins s σ H x y v u Q I rx ry (i _ _ _ _ q)
theorem bx.imp {f:Value} {r r':List V→Hp→VK→Prop} (h:bx X f r) (i:∀xs H Q,r' xs H Q→r xs H Q):bx X f r':=fun pins s σ H xs us Q I rx q=>h pins s σ H xs us Q I rx (i _ _ _ q)
theorem MtR.imp {id:String} {r r':V→List V→Hp→VK→Prop} (h:MtR X id r) (i:∀x xs H Q,r' x xs H Q→r x xs H Q):MtR X id r':=fun pins s σ H x xs v us Q I rx rr q=>h pins s σ H x xs v us Q I rx rr (i _ _ _ _ q)
theorem Fo {K:PySem.W.Frag} {ι:List Addr} {ds:List D} {xs:List V} {i:Int} {j:Nat} {d:D} (h:ae K ι H ds xs) (hi:Lp.ixN ds.length i=some j) (hj:ds[j]? = some d):∃v,atI xs i=some v∧IsD K ι H d v:=by
 obtain⟨v,e,q⟩:=h.get hj
 refine⟨v,?_,q⟩
 unfold atI
 rw[h.length,show L2.ixN ds.length i=some j from hi]
 exact e
theorem Jg:IxR X (rOp X.K ixD):=IxR.imp E2 fun x y H Q ⟨ι,d,e,μ,hS,hd,he,h⟩=>by
 unfold ixD at h
 split at h
 ·rename_i i
  have hy:y=.int i:=by simpa[IsD]using he
  subst hy
  split at h
  ·rename_i ds es
   obtain⟨a,xs,rfl,hq,hds⟩:=kg hS hd es
   split at h
   ·rename_i j ej
    split at h
    ·rename_i d' ed
     obtain⟨v,ev,hv⟩:=Fo hds ej ed
     have qv:=h.ok hS hv
     rcases hq with hq | hq
     ·exact .inl ⟨a,xs,i,v,rfl,rfl,hq.sq,ev,qv⟩
     ·exact .inr (.inl ⟨a,xs,i,v,rfl,rfl,hq,ev,qv⟩)
    ·exact h.elim
   ·exact h.elim
  ·exact h.elim
 ·exact h.elim
theorem Bd {K:PySem.W.Frag} {ι:List Addr} {ds:List D} {xs:List V} (h:ae K ι H ds xs) (lo hi:Option Int):ae K ι H (cut ds lo hi) (A9 xs lo hi):=by
 have e1:∀n d o,Lp.sIx n d o=HT.sIx n d o:=fun n d o=>by cases o<;>rfl
 unfold cut A9
 rw[h.length,e1,e1]
 exact(h.drop _).take _
end
end Lp
namespace Lp
open PySem PySem.Spec PyProof.Rows L2
noncomputable def u7 (env:Env):List (Str×NameKind)→List (Str×Addr)→List (Str×Addr)
 | [],acc=>acc
 | (n,k)::r,acc=>u7 env r (if k==.free then(n,(env.cells.lookup n).getD 0)::acc else acc)
noncomputable def il (env:Env) (x:Str×NameKind) (cs:List (Str×Addr)):Sem (ForInStep (List (Str×Addr))):=match x with
 | (name,kind)=>if kind==.free then(do let a ←cellOf env name;pure (ForInStep.yield ((name,a)::cs)))else pure (ForInStep.yield cs)
theorem h7 {env:Env}:∀(names:List (Str×NameKind)) (acc:List (Str×Addr)),(∀n,(n,NameKind.free)∈names→∃c,env.cells.lookup n=some c) →
  forIn names acc (il env)=pure (u7 env names acc)
 | [],acc,_=>rfl
 | (n,k)::r,acc,h=>by
  rw[EC]
  by_cases hk:k=.free
  ·subst hk
   obtain⟨c,hc⟩:=h n AM
   have e:il env (n,.free) acc=pure (ForInStep.yield ((n,c)::acc)):=by
    simp only[il,cellOf,hc,beq_self_eq_true,if_true]
    rfl
   rw[e]
   refine Eq.trans (b:=forIn r ((n,c)::acc) (il env)) rfl ?_
   rw[h7 r ((n,c)::acc) fun m hm=>h m (AN _ hm)]
   simp[u7,hc]
  ·have hb:(k==NameKind.free)=false:=by simpa using hk
   have e:il env (n,k) acc=pure (ForInStep.yield acc):=by
    unfold il
    simp only[hb,AQ,if_false]
   rw[e]
   refine Eq.trans (b:=forIn r acc (il env)) rfl ?_
   rw[h7 r acc fun m hm=>h m (AN _ hm)]
   simp[u7,hb]
theorem t6 {env:Env} {scope:Scope} (h:∀n,(n,NameKind.free)∈scope.names→∃c,env.cells.lookup n=some c):closureFor scope env=pure (u7 env scope.names []):=by
 have e:=h7 (env:=env) scope.names [] h
 have e2:closureFor scope env=(forIn scope.names [] (il env)>>=fun cs=>pure cs):=rfl
 rw[e2,e]
 rfl
theorem iy {env:Env}:∀(names:List (Str×NameKind)) (acc:List (Str×Addr)) (x:Str) (c:Addr),(∀n,(n,NameKind.free)∈names→∃c,env.cells.lookup n=some c)→(u7 env names acc).lookup x=some c→acc.lookup x=some c∨env.cells.lookup x=some c
 | [],acc,x,c,_,h=>.inl h
 | (n,k)::r,acc,x,c,hh,h=>by
  rcases iy r _ x c (fun m hm=>hh m (AN _ hm)) h with q | q
  ·by_cases hk:k=.free
   ·subst hk
    obtain⟨c',hc⟩:=hh n AM
    simp only[beq_self_eq_true,if_true,DA]at q
    by_cases hx:x=n
    ·subst hx
     simp only[beq_self_eq_true,hc,Option.getD_some,BC]at q
     subst q
     exact .inr hc
    ·have hb:(x==n)=false:=beq_eq_false_iff_ne.mpr hx
     rw[hb]at q
     exact .inl q
   ·have hb:(k==NameKind.free)=false:=by simpa using hk
    simp only[hb,AQ,if_false]at q
    exact .inl q
  ·exact .inr q
theorem n3 {env:Env}:∀(names:List (Str×NameKind)) (acc:List (Str×Addr)) (x:Str),(∃c,acc.lookup x=some c)→∃c,(u7 env names acc).lookup x=some c
 | [],acc,x,h=>h
 | (n,k)::r,acc,x,h=>by
  refine n3 r _ x ?_
  by_cases hk:(k==NameKind.free)=true
  ·rw[if_pos hk,DA]
   cases hx:x==n with
   | true=>exact⟨_,rfl⟩
   | false=>exact h
  ·rw[if_neg hk];exact h
theorem lg {env:Env}:∀(names:List (Str×NameKind)) (acc:List (Str×Addr)) (x:Str),(x,NameKind.free)∈names→∃c,(u7 env names acc).lookup x=some c
 | [],acc,x,h=>by cases h
 | (n,k)::r,acc,x,h=>by
  rcases AJ.mp h with e | e
  ·cases e
   refine n3 r _ n ?_
   exact⟨(env.cells.lookup n).getD 0,by simp⟩
  ·exact lg r _ x e
noncomputable def gk (X:Cx) (scope:Scope) (Nb:List Str) (C:Addr) (s:Shared) (H:Hp) (fp:List Addr):Cx :=
 {X with N:=Nb,s₀:=s,H₀:=H,env:=compEnvC scope (u7 X.env scope.names []) C X.env,outer:=X.stack,stack:=X.stack,ex:=fp,fn:=fun _=>false,pn:=[],xe:=fun _ _=>False}
structure CompScope (sc scope:Scope) (N Nb:List Str) (cap:List Nat) (nl:Nat):Prop where
 kind:scope.kind=.function
 nocell:∀y∈scope.names,y.2≠.cell
 uniq:∀y∈scope.names,scope.names.lookup y.1=some y.2
 free:∀n,(n,NameKind.free)∈scope.names→sc.names.lookup n=some .cell∨sc.names.lookup n=some .free
 fnames:∀n,(relabel scope {scope:=sc,locals:=0,globals:=0,cells:=[]}).names.lookup n=some .cell∨(relabel scope {scope:=sc,locals:=0,globals:=0,cells:=[]}).names.lookup n=some .free→(n,NameKind.free)∈scope.names
 nd:Nb.Nodup
 len:Nb.length=cap.length+nl
 capt:∀(j:Nat) i,cap[j]? = some i→∃x,Nb[j]? = some x∧N[i]? = some x∧(x,NameKind.free)∈scope.names
theorem t8 (scope:Scope) (env env':Env) (h:env.scope=env'.scope):relabel scope env=relabel scope env':=by
 unfold relabel Env.kindOf
 rw[h]
section
variable {X : Cx} {pins : List (Addr × Obj)} {σ : St} {H : Hp} {s : Shared} {scope : Scope} {Nb : List Str} {cap : List Nat} {nl : Nat}
noncomputable def eh (cap:List Nat) (nl:Nat) (σ:St):St:=cap.map (fun i=>(σ[i]?).getD none)++List.replicate nl none
theorem wa {fp:List Addr} {h':Heap} {tk:Nat} {C:Addr} {m:Str→Option Value} {D:Addr} {n0:Nat} (I:Inv X pins σ H s) (S:CompScope X.env.scope scope X.N Nb cap nl)
  (hf:∀b∈fp,u6 X pins H b) (hfp:∀b∈fp,∃o,s.heap.get? b=some o) (hk:∀b o,s.heap.get? b=some o→h'.get? b=some o) (hC:s.heap.objs.size≤C) (hD:s.heap.objs.size≤D) (hDC:D≠C)
  (hns:h'.Ns C m) (hm:∀x,m x=none) (hDo:h'.get? D=some {cls:=.type "list",data:=.seq #[] n0}) :
  Inv (gk X scope Nb C s H fp) [(D,{cls:=.type "list",data:=.seq #[] n0})] (eh cap nl σ) H {s with heap:=h',toks:=tk}:=by
 have hcells:∀n,(n,NameKind.free)∈scope.names→∃c,X.env.cells.lookup n=some c:=fun n hn=>by
  rcases S.free n hn with e | e
  ·exact I.ok.has n (.inl e)
  ·exact I.ok.has n (.inr e)
 have sub:∀x c,(u7 X.env scope.names []).lookup x=some c→X.env.cells.lookup x=some c:=fun x c e=>by
  rcases iy scope.names [] x c hcells e with q | q
  ·cases q
  ·exact q
 have hlt:∀b∈fp,b<s.heap.objs.size:=fun b hb=>let ⟨o,e⟩:=hfp b hb;AF e
 have hrel:relabel scope X.env=relabel scope {scope:=X.env.scope,locals:=0,globals:=0,cells:=[]}:=t8 _ _ _ rfl
 have hcm:∀x c,X.env.cells.lookup x=some c→c<s.heap.objs.size:=fun x c e=>let ⟨v,q⟩:=I.cell x c e;q.lt
 refine⟨⟨I.ok.mod,by show(relabel scope X.env).kind=_;unfold relabel;exact S.kind,I.ok.glob,I.ok.blt,hC,fun x y c e1 e2=>I.ok.inj x y c (sub x c e1) (sub y c e2),fun x hx=>?_,fun x c hfn=>?_,I.ok.hd,I.ok.frames,.inl rfl,
  fun b hb=>⟨AI (AO (hlt b hb) hC),fun x c e=>(hf b hb).2.2.2.2.1 x c (sub x c e)⟩,I.bs,BV I.ok.bsz I.sz,fun b o e hb=>?_,fun b hb hb2=>?_,I.stack,I.stkFree⟩,
  rfl,I.bare,Un.kept hk,⟨m,hns,fun i x v e1 e2 e3=>?_⟩,fun x c e=>?_,I.hok.fresh hC,fun x c e=>I.freeC x c (sub x c e),fun p hp=>?_,I.hok.kept hk,?_⟩
 ·have hx':(relabel scope {scope:=X.env.scope,locals:=0,globals:=0,cells:=[]}).names.lookup x=some .cell∨(relabel scope {scope:=X.env.scope,locals:=0,globals:=0,cells:=[]}).names.lookup x=some .free:=by
   rw[←hrel];exact hx
  exact lg scope.names [] x (S.fnames x hx')
 ·cases hfn
 ·rcases(hf b hb).2.2.2.1 with z | z
  ·exact I.ok.noex b o e z
  ·have:=AF e
   exact absurd (AO this (BV I.ok.bsz z)) (CA _)
 ·rcases AJ.mp (I.stkSub b hb2)with z | z
  ·exact(hf b hb).2.1 z
  ·exact(hf b hb).2.2.1 z
 ·-- a captured name
  have hi:i<cap.length:=by
   by_cases hi:i<cap.length
   ·exact hi
   ·unfold eh at e2
    rw[CB (by simpa using hi),CK]at e2
    split at e2<;>cases e2
  unfold eh at e2
  rw[AR (by simpa using hi),BN,AC hi]at e2
  simp only[GO,BC]at e2
  obtain⟨y,q1,q2,q3⟩:=S.capt i _ (AC hi)
  have ey:y=x:=BF (q1.symm.trans e1)
  subst ey
  have e4:σ[cap[i]]? = some (some v):=by
   cases e5:σ[cap[i]]? with
   | none=>rw[e5]at e2;cases e2
   | some w=>rw[e5]at e2;simp at e2;rw[e2]
  obtain⟨m0,hn0,hl0⟩:=I.loc
  have hkind:X.env.kindOf y=some .cell∨X.env.kindOf y=some .free:=S.free y q3
  obtain⟨u,r,l⟩:=hl0 _ y v q2 e4 (by rcases hkind with z | z;exact .inr (.inl z);exact .inr (.inr z))
  refine⟨u,r,.inr ?_⟩
  rcases l with⟨z,_⟩ | ⟨_,c,ec,hc⟩
  ·rcases hkind with w | w<;>(rw[w]at z;cases z)
  ·obtain⟨c',ec'⟩:=lg (env:=X.env) scope.names [] y q3
   have:c'=c:=by have:=sub y c' ec';rw[ec]at this;cases this;rfl
   subst this
   obtain⟨o,ho,hd⟩:=hc
   refine⟨?_,c',ec',o,hk _ _ ho,hd⟩
   -- a free name is seen as a cell or as free
   have hv:(gk X scope Nb C s H fp).env.kindOf y=some .local∨(gk X scope Nb C s H fp).env.kindOf y=some .cell∨(gk X scope Nb C s H fp).env.kindOf y=some .free:=e3
   rcases hv with z | z | z
   ·exfalso
    have hl:(relabel scope X.env).names.lookup y=some .local:=z
    have mem:∀(l:List (Str×NameKind)) (y:Str),(l.map fun(n,k)=>if(k==NameKind.free&&X.env.scope.kind==.function&&X.env.kindOf n==some .cell)then(n,NameKind.cell)else(n,k)).lookup y=some .local→l.lookup y=some .local:=by
     intro l
     induction l with
     | nil=>intro y h;simp at h
     | cons a r ih =>
      obtain⟨n,k⟩:=a
      intro y h
      simp only[AZ]at h
      rw[DA]
      by_cases hc:(k==NameKind.free&&X.env.scope.kind==.function&&X.env.kindOf n==some .cell)=true
      ·rw[if_pos hc,DA]at h
       cases hy:y==n with
       | true=>rw[hy]at h;cases h
       | false=>rw[hy]at h;exact ih y h
      ·rw[if_neg hc,DA]at h
       cases hy:y==n with
       | true=>rw[hy]at h;exact h
       | false=>rw[hy]at h;exact ih y h
    have hloc:=mem scope.names y hl
    rw[S.uniq (y,NameKind.free) q3]at hloc
    cases hloc
   ·exact .inl z
   ·exact .inr z
 ·obtain⟨v,o,ho,hd⟩:=I.cell x c (sub x c e)
  exact⟨v,o,hk _ _ ho,hd⟩
 ·have e:p=(D,{cls:=.type "list",data:=.seq #[] n0}):=by
   have:p∈([]:List (Addr×Obj))++[(D,{cls:=.type "list",data:=.seq #[] n0})]:=hp
   simpa using this
  subst e
  refine⟨hDo,I.hok.fresh hD,hDC,fun z=>?_,fun v z=>by cases z⟩
  have z':D∈frs X.stack:=z
  rcases AJ.mp (I.stkSub D z')with w | w
  ·exact absurd (AO I.lt hD) (by rw[w];exact CA _)
  ·exact I.nofs hD w
 ·show(eh cap nl σ).length=Nb.length
  rw[S.len];simp[eh]
end
noncomputable abbrev qf (ifs:List Expr) (env:Env) (b:Bool):Sem Bool:=forIn ifs b fun c r=>if r=true then do let ok ←isTrue c env (eval c env);pure (ForInStep.yield ok)else pure (ForInStep.yield r)
noncomputable def PTs (X:Cx) (ifs:List Expr) (t:TT):Prop :=
 ∀(pins:List (Addr×Obj)) (s:Shared) (σ:St) (H:Hp) (Q:Bool→Hp→Prop),Inv X pins σ H s→t σ H Q→wpAny (model X.prog X.w) X.A (qf ifs X.env true) (TP X pins σ Q) X.xe s
theorem jd {M:Model} {A:Around} {E:Value→Shared→Prop} {env:Env} {Q:Bool→Shared→Prop}:∀(ifs:List Expr) {s:Shared},Q false s→wpAny M A (qf ifs env false) Q E s
 | [],s,h=>AD h
 | c::r,s,h=>by
  show wpAny M A (forIn (c::r) false _) Q E s
  rw[EC]
  exact AA (AD (jd r h))
noncomputable def tTsNil:TT:=fun _ H Q=>Q true H
noncomputable def Cu (t u:TT):TT:=fun σ H Q=>t σ H fun b H1=>if b=true then u σ H1 Q else Q false H1
theorem Cv {X:Cx}:PTs X [] tTsNil:=fun pins s σ H Q I h=>AD ⟨H,I,h⟩
theorem z0 {X:Cx} {c:Expr} {r:List Expr} {t u:TT} (h1:PT X c t) (h2:PTs X r u):PTs X (c::r) (Cu t u):=fun pins s σ H Q I h=>by
 show wpAny _ _ (forIn (c::r) true _) _ _ s
 rw[EC]
 refine AA (AA (thn (h1 pins s σ H _ I h) fun b s1 ⟨H1,I1,q1⟩=>AD ?_))
 cases b with
 | true=>exact h2 pins s1 σ H1 Q I1 q1
 | false=>exact jd r ⟨H1,I1,q1⟩
noncomputable def Kept (σ σ':St):Prop:=σ.length=σ'.length∧∀(i:Nat) v,σ[i]? = some (some v)→σ'[i]? = some (some v)
noncomputable def Fp (wi:TI) (g:TG) (ts:TT) (te:TE) (σb:St→St):TE:=fun σ H Q=>wi σ H fun J H1=>∃W:Nat→Nat→Hp→List V→Prop,(∃m,W 0 m H1 [])∧∀i m H acc,W i m H acc →
 (J.stop i H∧acc.length≤sizeLine∧∀p,H p=none→Q (.ref p) (upd H p (.lst acc))) ∨
 (J.go i H∧acc.length<sizeLine∧∀x H',J.yld i H x H'→g x (σb σ) H' fun σ2 H2=>Kept (σb σ) σ2∧ts σ2 H2 fun b H3=>if b=true then te σ2 H3 fun v H4=>∃m',m'<m∧W (i+1) m' H4 (acc++[v])else ∃m',m'<m∧W (i+1) m' H3 acc)
section
variable {X : Cx} {scope : Scope} {Nb : List Str} {cap : List Nat} {nl : Nat}
theorem _root_.L2.HOk.track {P:Program} {w:World} {H:Hp} {h:Heap} {p:Addr} {o:HO} (x:HOk P w H h) (hp:H p=none) (new:dy P w (upd H p o) h p o):HOk P w (upd H p o) h:=fun b u e=>by
 by_cases hb:b=p
 ·subst hb;rw[au]at e;cases e;exact new
 ·rw[ai hb]at e
  exact(x b u e).stay (fun c v _ q=>q) (fun c q=>by rw[ai (aq q hp)];exact q) fun c xs q=>by rw[ai (aq q hp)];exact q
theorem wb {prog:Program} {w:World} {A:Around} {R:Result→Shared→Prop} {s:Shared} {elt target iter:Expr} {ifs:List Expr} {pos:Pos} {it acc:Value} {env:Env} (I:Nat→Shared→Prop)
  (turn:∀n s,I n s→wpAny (model prog w) A (pyNext it) (fun r s₁=>match r with
   | none=>R (.ok .next) s₁
   | some v=>wpAny (model prog w) A (letOwnedTupleGo target it v) (fun _ s₀=>wpAny (model prog w) A (assign target env v) (fun _ s₂ =>
     wpAny (model prog w) A (qf ifs env true) (fun ok s₃ =>
      if ok=true then wpAny (model prog w) A (eval elt env) (fun x s₄ =>
       wpAny (model prog w) A (call (.builtin "list.append") [acc,x]) (fun _ s₅=>∃m,m<n∧I m s₅) (fun _ _=>False) s₄) (fun _ _=>False) s₃
      else ∃m,m<n∧I m s₃) (fun _ _=>False) s₂) (fun _ _=>False) s₀) (fun _ _=>False) s₁) (fun _ _=>False) s)
  (n:Nat) (h:I n s) :
  codeAny (model prog w) A (.compLoop (.ListComp elt [⟨target,iter,ifs,0⟩] scope pos) 0 it acc env) R s:=by
 refine codeAny_loop rfl I (fun n s hI=>?_) n h
 show wpAny _ A ((compTurn (.ListComp elt [⟨target,iter,ifs,0⟩] scope pos) 0 it acc env).onRaise (fun x=>do noteFrame x env;theTreesLotGoes x)) _ _ s
 refine wpAny_noted ?_
 rw[compTurn_list]
 have no:∀{α:Type} {t:Sem α} {Q:α→Shared→Prop} {E:Value→Shared→Prop} {s:Shared},wpAny (model prog w) A t Q (fun _ _=>False) s→wpAny (model prog w) A t Q E s:=fun h=>Da h (fun _ _ q=>q) fun _ _ q=>q.elim
 refine AA (wpAny_standAt (AA (Da (turn n s hI) (fun r s₁ h₁=>?_) fun _ _ h'=>h'.elim)))
 cases r with
 | none=>exact AD h₁
 | some v =>
  refine AA (Da h₁ (fun _ s₀ h₀=>?_) fun _ _ h'=>h'.elim)
  refine AA (Da h₀ (fun _ s₂ h₂=>AA (Da h₂ (fun ok s₃ h₃=>?_) fun _ _ h'=>h'.elim)) fun _ _ h'=>h'.elim)
  cases ok with
  | false=>exact AD ⟨rfl,h₃⟩
  | true =>
   exact AA (AA (Da h₃ (fun x s₄ h₄=>AA (Da h₄ (fun _ s₅ h₅=>AD (AD ⟨rfl,h₅⟩)) fun _ _ h'=>h'.elim)) fun _ _ h'=>h'.elim))
noncomputable def z5 (X:Cx) (scope:Scope) (Nb:List Str) (target:Expr) (ifs:List Expr) (elt:Expr) (g:TG) (ts:TT) (te:TE):Prop :=
 ∀C s H fp,PG (gk X scope Nb C s H fp) target g∧PTs (gk X scope Nb C s H fp) ifs ts∧PE (gk X scope Nb C s H fp) elt te
theorem t9 {elt target iter:Expr} {ifs:List Expr} {pos:Pos} {g:TG} {ts:TT} {te:TE} {pins:List (Addr×Obj)} {σ:St} {H:Hp} {s:Shared} {it:Addr} {fp:List Addr} {tn:Nat→Heap→Prop} {J:L2.It} {Q:VK} {E:Value→Shared→Prop} {use:Option (Value→Sem Unit)} {QQ:Value→Shared→Prop}
  (S:CompScope X.env.scope scope X.N Nb cap nl) (hc:X.calm=true) (B:z5 X scope Nb target ifs elt g ts te) (I:Inv X pins σ H s) (T:Turn X.prog X.w X.K target J fp it tn) (t0:tn 0 s.heap) (hf:∀b∈fp,u6 X pins H b)
  (h:∃W:Nat→Nat→Hp→List V→Prop,(∃m,W 0 m H [])∧∀i m H acc,W i m H acc →
   (J.stop i H∧acc.length≤sizeLine∧∀p,H p=none→Q (.ref p) (upd H p (.lst acc))) ∨
   (J.go i H∧acc.length<sizeLine∧∀x H',J.yld i H x H'→g x (eh cap nl σ) H' fun σ2 H2=>Kept (eh cap nl σ) σ2∧ts σ2 H2 fun b H3=>if b=true then te σ2 H3 fun v H4=>∃m',m'<m∧W (i+1) m' H4 (acc++[v])else ∃m',m'<m∧W (i+1) m' H3 acc))
  (hQ:∀(D C:Addr) (s':Shared) m,s.heap.objs.size≤C→(∀h',Heap.SameBut C s'.heap h'→EP X pins σ (fun v H=>H C=none∧Q v H) (.ref D) {s' with heap:=h'})→s'.heap.Ns C m→compPost (model X.prog X.w) X.A E use QQ (.ref D) C (.ok .next) s') :
  wpAny (model X.prog X.w) X.A (newList []) (fun acc s₃=>wpAny (model X.prog X.w) X.A (newFunctionEnv scope X.env.globals (u7 X.env scope.names []) [] X.env.qual none .none (some X.env)) (fun cenv s₄ =>
   codeAny (model X.prog X.w) X.A (.compStart (.ListComp elt [⟨target,iter,ifs,0⟩] scope pos) 0 (.ref it) acc {cenv with scope:=relabel scope X.env}) (compPost (model X.prog X.w) X.A E use QQ acc cenv.locals) s₄) E s₃) E s:=by
 refine BB (wpAny_newFunctionEnv S.nocell (by intro y hy;simp at hy) (fun h₁ hns₁ hsb₁=>?_) S.kind)
 dsimp only at hns₁ hsb₁ ⊢
 generalize hH2:s.heap.push {cls:=.type "list",dict:=none,data:=.seq ([]:List Value).toArray}=H2 at hns₁ hsb₁ ⊢
 have hC:H2.objs.size=s.heap.objs.size+1:=by rw[←hH2,CJ]
 have hDC:s.heap.objs.size≠H2.objs.size:=by rw[hC];exact AI (EN _)
 have hCle:s.heap.objs.size≤H2.objs.size:=by rw[hC];exact EU _
 have old:∀b o,s.heap.get? b=some o→h₁.get? b=some o:=fun b o e=>hsb₁.extBut b o (by rw[hC];exact AI (CY (AF e))) (AB _ (hH2 ▸ AB _ e))
 have hDo:h₁.get? s.heap.objs.size=some {cls:=.type "list",data:=.seq #[]}:=hsb₁.extBut _ _ hDC (AB _ (hH2 ▸ AG _ rfl))
 have hfp:∀b∈fp,∃o,s.heap.get? b=some o:=fun b hb=>let ⟨o,e,_⟩:=T.obj 0 _ t0 b hb;⟨o,e⟩
 have hlt:∀b∈fp,b<s.heap.objs.size:=fun b hb=>let ⟨o,e⟩:=hfp b hb;AF e
 obtain⟨W,⟨m0,w0⟩,turn⟩:=h
 obtain⟨BG,BT,BE⟩:=B H2.objs.size s H fp
 have I4:=wa (tk:=s.toks+([]:List (Str×Value)).length) I S hf hfp old hCle (AL _) hDC hns₁ (fun x=>by simp) hDo
 have hcells:∀n,(n,NameKind.free)∈scope.names→∃c,X.env.cells.lookup n=some c:=fun n hn=>by
  rcases S.free n hn with e | e
  ·exact I.ok.has n (.inl e)
  ·exact I.ok.has n (.inr e)
 -- what the iterator's objects are to the block
 have stat:∀{H':Hp},(∀b∈fp,H' b=none)→∀b∈fp,u6 (gk X scope Nb H2.objs.size s H fp) [] H' b:=fun hn b hb=>by
  refine⟨hn b hb,AI (AO (hlt b hb) hCle),fun z=>?_,.inl hb,fun x c e=>?_,fun p hp=>absurd (show p∈([]:List (Addr×Obj))++[]from hp) (by simp)⟩
  ·rcases AJ.mp (I.stkSub b z)with z | z
   ·exact(hf b hb).2.1 z
   ·exact(hf b hb).2.2.1 z
  ·rcases iy scope.names [] x c hcells e with q | q
   ·cases q
   ·exact(hf b hb).2.2.2.2.1 x c q
 have loop:∀s₃:Shared,s₃={s with heap:=h₁,toks:=s.toks+([]:List (Str×Value)).length} →
   codeAny (model X.prog X.w) X.A (.compLoop (.ListComp elt [⟨target,iter,ifs,0⟩] scope pos) 0 (.ref it) (.ref s.heap.objs.size) (compEnvC scope (u7 X.env scope.names []) H2.objs.size X.env))
    (compPost (model X.prog X.w) X.A E use QQ (.ref s.heap.objs.size) H2.objs.size) s₃:=by
  rintro s₃ rfl
  refine wb (fun n s'=>∃i H' acc its n',Inv (gk X scope Nb H2.objs.size s H fp) [] (eh cap nl σ) H' s'∧tn i s'.heap∧(∀b∈fp,H' b=none)∧H' s.heap.objs.size=none ∧
   s'.heap.get? s.heap.objs.size=some {cls:=.type "list",data:=.seq (its:List Value).toArray n'}∧a9 acc its∧W i n H' acc) ?_ m0
   ⟨0,H,[],[],_,I4.pins_of (fun p hp=>absurd hp (by simp)),T.keep _ _ _ t0 fun b hb o e=>old b o e,fun b hb=>(hf b hb).1,I.hok.fresh (AL _),hDo,.nil,w0⟩
  rintro n s5 ⟨i,H5,acc,its,n5,I5,t5,f5,hD5,hget5,hv5,w5⟩
  rcases turn i n H5 acc w5 with⟨stop,hz,q⟩ | ⟨go,hz,q⟩
  ·refine thn (T.done (gk X scope Nb H2.objs.size s H fp) rfl rfl rfl hc i [(s.heap.objs.size,{cls:=.type "list",data:=.seq its.toArray n5})] s5 _ H5 _ (I5.pins_of ?_) ?_ t5 stop) fun r s6 ⟨hr,I6⟩=>?_
   ·intro p hp
    have e:p=(s.heap.objs.size,{cls:=.type "list",data:=.seq its.toArray n5}):=by simpa using hp
    subst e
    refine⟨hget5,hD5,hDC,fun z=>?_,fun v z=>by cases z⟩
    rcases AJ.mp (I.stkSub _ (show s.heap.objs.size∈frs X.stack from z))with w | w
    ·exact absurd I.lt (by rw[←w];exact CA _)
    ·exact I.nofs (AL _) w
   ·intro b hb
    obtain⟨a1,a2,a3,a4,a5,a6⟩:=stat f5 b hb
    refine⟨a1,a2,a3,a4,a5,fun p hp=>?_⟩
    have e:p=(s.heap.objs.size,{cls:=.type "list",data:=.seq its.toArray n5}):=by
     have:p∈([]:List (Addr×Obj))++[(s.heap.objs.size,{cls:=.type "list",data:=.seq its.toArray n5})]:=hp
     simpa using this
    subst e
    exact fun z=>absurd (hlt b hb) (by rw[←z];exact CA _)
   ·subst hr
    have hget6:=(I6.pin (s.heap.objs.size,{cls:=.type "list",data:=.seq its.toArray n5}) (by show _∈([]:List (Addr×Obj))++_;simp)).1
    obtain⟨m6,hn6,_⟩:=I6.loc
    refine hQ _ _ s6 m6 hCle (fun h' hs'=>?_) hn6
    have hk6:∀b o,b≠H2.objs.size→s6.heap.get? b=some o→h'.get? b=some o:=fun b o hb e=>hs'.extBut b o hb e
    have hgetD:=hk6 _ _ hDC hget6
    have Cn:H5 H2.objs.size=none:=I6.free
    have hok':HOk X.prog X.w H5 h':=fun b u e=>by
     refine(I6.hok b u e).stay (fun c v hcc q=>hk6 c v ?_ q) (fun _ q=>q) fun _ _ q=>q
     rcases hcc with z | z
     ·rintro rfl;rw[←z]at e;rw[Cn]at e;cases e
     ·rintro rfl;rw[Cn]at z;cases z
    refine⟨.ref s.heap.objs.size,upd H5 s.heap.objs.size (.lst acc),?_,rfl,by rw[ai (Ne.symm hDC)];exact Cn,q _ hD5⟩
    have hU:Un (frs X.stack) fp H H5 s.heap s6.heap:=I6.base
    have nC:∀b o,s.heap.get? b=some o→b≠H2.objs.size:=fun b o e=>AI (AO (AF e) hCle)
    have nD:∀b o,s.heap.get? b=some o→b≠s.heap.objs.size:=fun b o e=>AI (AF e)
    refine I.call' (s':={s6 with heap:=h'}) (ch:=fp) (by show s6.os=s.os;exact I6.os) ⟨fun b o e nn hb hx=>hk6 b o (nC b o e) (hU.keep b o e nn hb hx),fun b o e nn hb hx=>?_,fun b o e nn hx=>?_,fun b o e hx=>?_,fun b xs e=>?_,fun b o u e=>?_,fun b ps e=>?_⟩ ?_ I6.bare ?_
    ·obtain⟨sl,e2⟩:=hU.slot b o e nn hb hx
     exact⟨sl,hk6 b _ (nC b o e) e2⟩
    ·rw[ai (nD b o e)];exact hU.free b o e nn hx
    ·obtain⟨o',e2⟩:=hU.there b o e hx
     exact⟨o',hk6 b _ (nC b o e) e2⟩
    ·have e2:=hU.tups b xs e
     rw[ai (aq e2 hD5)];exact e2
    ·have e2:=hU.frzs b o u e
     rw[ai (aq e2 hD5)];exact e2
    ·obtain⟨more,e2⟩:=hU.tbls b ps e
     exact⟨more,by rw[ai (aq e2 hD5)];exact e2⟩
    ·exact L2.HOk.track hok' hD5 ⟨hz,its,n5,hv5,hgetD⟩
    ·intro b hb
     obtain⟨a1,a2,a3,a4,a5,a6⟩:=hf b hb
     exact⟨a4,a2,a5,a6⟩
  ·-- one more turn
   have notfs:s.heap.objs.size∉frs X.stack:=fun z=>by
    rcases AJ.mp (I.stkSub _ z)with w | w
    ·exact absurd I.lt (by rw[←w];exact CA _)
    ·exact I.nofs (AL _) w
   have I5':Inv (gk X scope Nb H2.objs.size s H fp) [(s.heap.objs.size,{cls:=.type "list",data:=.seq its.toArray n5})] (eh cap nl σ) H5 s5:=I5.pins_of fun p hp=>by
    have e:p=(s.heap.objs.size,{cls:=.type "list",data:=.seq its.toArray n5}):=by simpa using hp
    subst e
    exact⟨hget5,hD5,hDC,notfs,fun v z=>by cases z⟩
   have stat':∀{H':Hp},(∀b∈fp,H' b=none)→∀b∈fp,u6 (gk X scope Nb H2.objs.size s H fp) [(s.heap.objs.size,{cls:=.type "list",data:=.seq its.toArray n5})] H' b:=fun hn b hb=>by
    obtain⟨a1,a2,a3,a4,a5,a6⟩:=stat hn b hb
    refine⟨a1,a2,a3,a4,a5,fun p hp=>?_⟩
    have e:p=(s.heap.objs.size,{cls:=.type "list",data:=.seq its.toArray n5}):=by
     have:p∈([]:List (Addr×Obj))++[(s.heap.objs.size,{cls:=.type "list",data:=.seq its.toArray n5})]:=hp
     simpa using this
    subst e
    exact fun z=>absurd (hlt b hb) (by rw[←z];exact CA _)
   refine thn (T.item (gk X scope Nb H2.objs.size s H fp) rfl rfl rfl hc i _ s5 _ H5 (fun _ _=>False) I5' (stat' f5) t5 go) fun r s6 ⟨u,hr,h6⟩=>?_
   subst hr
   refine thn h6 fun _ s7 ⟨x,H7,I7,r7,y7,t7,f7⟩=>?_
   have I7':=I7.pinned (stat' f7) (T.obj _ _ t7)
   have back:∀{σ':St} {H':Hp} {s':Shared},Inv (gk X scope Nb H2.objs.size s H fp) ([(s.heap.objs.size,{cls:=.type "list",data:=.seq its.toArray n5})]++nc fp s7.heap) σ' H' s' →
     tn (i+1) s'.heap∧(∀b∈fp,H' b=none)∧H' s.heap.objs.size=none∧s'.heap.get? s.heap.objs.size=some {cls:=.type "list",data:=.seq its.toArray n5}:=fun {σ' H' s'} J'=>by
    have pD:=J'.pin (s.heap.objs.size,{cls:=.type "list",data:=.seq its.toArray n5}) (by show _∈([]:List (Addr×Obj))++_;simp)
    refine⟨T.keep _ _ _ t7 fun b hb o e=>(J'.pin (b,o) (BI _ (BI _ (fv hb e)))).1,fun b hb=>?_,pD.2.1,pD.1⟩
    obtain⟨o,e,d⟩:=T.obj _ _ t7 b hb
    exact(J'.pin (b,o) (BI _ (BI _ (fv hb e)))).2.1
   refine thn (BG _ s7 _ H7 x u _ I7' r7 (q x H7 y7)) fun _ s8 ⟨σ8,H8,I8,ks,q8⟩=>?_
   refine thn (BT _ s8 σ8 H8 _ I8 q8) fun ok s9 ⟨H9,I9,q9⟩=>?_
   cases ok with
   | false =>
    obtain⟨m',hm',w9⟩:∃m',m'<n∧W (i+1) m' H9 acc:=q9
    obtain⟨b1,b2,b3,b4⟩:=back I9
    exact⟨m',hm',i+1,H9,acc,its,n5,(I9.weak ks.1 ks.2).pins_of (fun p hp=>absurd hp (by simp)),b1,b2,b3,b4,hv5,w9⟩
   | true =>
    refine thn (BE _ s9 σ8 H9 _ I9 q9) fun xv s10 ⟨v,H10,I10,r10,m',hm',w10⟩=>?_
    obtain⟨b1,b2,b3,b4⟩:=back I10
    have hl5:=hv5.length
    refine wpAny_list_append_plain (items:=its.toArray) ⟨n5,b4⟩ (fun h' hpl hs'=>?_) (by rw[AE,←hl5];exact DD hz)
    obtain⟨n6,hg6⟩:=hpl
    have I11:Inv (gk X scope Nb H2.objs.size s H fp) [] (eh cap nl σ) H10 {s10 with heap:=h'}:=by
     have I10':=(I10.weak ks.1 ks.2).pins_of (pins':=[]) (fun p hp=>absurd hp (by simp))
     refine I10'.turned (t':=s10.toks) (it:=s.heap.objs.size) (fun b o hb e=>hs'.extBut b o hb e) b3 hDC (.inr (AL _)) (fun x c e=>?_) (fun p hp=>absurd (show p∈([]:List (Addr×Obj))++[]from hp) (by simp))
     rcases iy scope.names [] x c hcells e with q | q
     ·cases q
     ·obtain⟨v,hcc⟩:=I.cell x c q
      exact AI hcc.lt
    refine⟨m',hm',i+1,H10,acc++[v],its++[xv],n6,I11,?_,b2,b3,by rw[hg6];simp,hv5.append (.cons r10 .nil),w10⟩
    exact T.keep _ _ _ b1 fun b hb o e=>hs'.extBut b o (AI (hlt b hb)) e
 exact codeAny_compStart_list (loop _ rfl) (T.self X.A 0 _ _ _ (T.keep _ _ _ t0 fun b hb o e=>old b o e) (loop _ rfl))
theorem Cw {elt target iter:Expr} {ifs:List Expr} {pos:Pos} {wi:TI} {g:TG} {ts:TT} {te:TE} (S:CompScope X.env.scope scope X.N Nb cap nl) (hc:X.calm=true) (hi:PI X target iter wi) (B:z5 X scope Nb target ifs elt g ts te)
  (hs:∀x,foldedSetIterable iter X.env x=pure x):PE X (.ListComp elt [⟨target,iter,ifs,0⟩] scope pos) (Fp wi g ts te (eh cap nl)):=by
 intro pins s σ H Q I h
 rw[eval_ListComp]
 have hcells:∀n,(n,NameKind.free)∈scope.names→∃c,X.env.cells.lookup n=some c:=fun n hn=>by
  rcases S.free n hn with e | e
  ·exact I.ok.has n (.inl e)
  ·exact I.ok.has n (.inr e)
 refine wpAny_comprehension_free (use:=none) rfl hs (t6 hcells) S.kind (fun y hy hl=>by rw[S.uniq y hy,hl]) ?_
 refine thn (hi pins s σ H _ I h) fun v s1 h1=>thn h1 fun itv s2 ⟨it,fp,tn,J,H2,e,I2,T,t2,f2,hW⟩=>?_
 subst e
 exact t9 (Q:=Q) (QQ:=EP X pins σ Q) S hc B I2 T t2 f2 hW fun D C s' m _ hq hn=>⟨m,hn,fun h' hs'=>let ⟨v,H',I',r,q⟩:=hq h' hs';⟨v,H',I',r,q.2⟩⟩
end
end Lp
namespace Lp
open PySem PySem.Spec PyProof.Rows L2
noncomputable def tTs (K:PySem.W.Frag) (φ:Phi) (x:Exs):TT:=fun σv H Q=>∃ι σ μ,Sim K ι H μ∧g8 K ι H σ σv∧c6 K RB ι H (tx φ x σ μ) Q
section
variable {X : Cx} {φ : Phi} {scope : Scope} {Nb : List Str} {cap : List Nat} {nl : Nat}
theorem PTs.imp {ifs:List Expr} {t t':TT} (h:PTs X ifs t) (i:∀σ H Q,t' σ H Q→t σ H Q):PTs X ifs t':=fun pins s σ H Q I q=>h pins s σ H Q I (i σ H Q q)
theorem Fq:PTs X [] (tTs X.K φ .nil):=PTs.imp Cv fun σv H Q ⟨ι,σ,μ,hS,hL,h⟩=>by
 simp only[tx]at h
 exact h.ok hS rfl
theorem Cy {c:Expr} {r:List Expr} {xc:Ex} {xr:Exs} (h1:PT X c (tT X.K φ xc)) (h2:PTs X r (tTs X.K φ xr)):PTs X (c::r) (tTs X.K φ (.cons xc xr)):=PTs.imp (z0 h1 h2) fun σv H Q ⟨ι,σ,μ,hS,hL,h⟩=>by
 simp only[tx]at h
 obtain⟨d,μ1,e1,h⟩:=h.bind
 refine⟨ι,σ,μ,hS,hL,?_⟩
 rw[e1]
 cases d with
 | bl k =>
  intro ι1 x H1 p1 x1 s1 d1
  cases d1
  cases k with
  | true=>exact⟨ι1,σ,μ1,s1,hL.mono p1 x1,(show c6 _ _ _ _ (tx φ xr σ μ1) _ from h).mono p1 x1⟩
  | false=>exact h ι1 false H1 p1 x1 s1 rfl
 | _=>exact h.elim
theorem z6 {K:PySem.W.Frag} {ι:List Addr} {H:Hp} {σ:Sl} {σv:St} (hL:g8 K ι H σ σv):g8 K ι H (cap.map (fun i=>(σ[i]?).getD none)++List.replicate nl none) (eh cap nl σv):=fun j d e=>by
 by_cases hj:j<cap.length
 ·rw[AR (by simpa using hj),BN,AC hj]at e
  simp only[GO,BC]at e
  have e4:σ[cap[j]]? = some (some d):=by
   cases e5:σ[cap[j]]? with
   | none=>rw[e5]at e;cases e
   | some w=>rw[e5]at e;simp at e;rw[e]
  obtain⟨v,q1,q2⟩:=hL _ _ e4
  refine⟨v,?_,q2⟩
  unfold eh
  rw[AR (by simpa using hj),BN,AC hj]
  simp[q1]
 ·rw[CB (by simpa using hj),CK]at e
  split at e<;>cases e
theorem z7 {σv σv':St} {tg:Tg} (hs:∀j∈slots tg,cap.length≤j) (hl:σv'.length=(eh cap nl σv).length) (h:∀j,j∉slots tg→σv'[j]? = (eh cap nl σv)[j]?):Kept (eh cap nl σv) σv':=by
 refine⟨hl.symm,fun i v e=>?_⟩
 have hi:i<cap.length:=by
  by_cases hi:i<cap.length
  ·exact hi
  ·unfold eh at e
   rw[CB (by simpa using hi),CK]at e
   split at e<;>cases e
 rw[h i fun z=>absurd (hs i z) (by lia)]
 exact e
theorem wc {m:Mk} {tg:Tg} {it:It} {cs:Exs} {elt:Ex} {σv:St} {H:Hp} {Q:VK} (hs:∀j∈slots tg,cap.length≤j) (h:tE X.K φ (.comp m cap nl tg it cs elt) σv H Q) :
  Fp (tI X.K φ it) (tG X.K tg) (tTs X.K φ cs) (tE X.K φ elt) (eh cap nl) σv H (FQ Q):=by
 obtain⟨ι,σ,μ,hS,hL,h⟩:=h
 simp only[evE]at h
 obtain⟨⟨ds,g⟩,μ1,e1,h⟩:=h.bind
 refine⟨ι,σ,μ,hS,hL,?_⟩
 rw[e1]
 intro ι1 H1 J p1 x1 s1 wk
 refine⟨fun i k H' acc=>k=ds.length-i∧i≤ds.length∧acc.length≤i∧∃ι' μ' ys,ι1 <+: ι'∧Ext H1 H'∧Sim X.K ι' H' μ'∧ae X.K ι' H' ys acc ∧
  c6 X.K (RD X.K) ι' H' ((mapR g (fun d μ=>gg (cz tg d (cap.map (fun i=>(σ[i]?).getD none)++List.replicate nl none)) fun σ' =>
    (tx φ cs σ' μ).bind fun b μ=>if b=true then(evE φ elt σ' μ).bind fun x μ=>.ok [x] μ else .ok [] μ) (ds.drop i) μ').bind fun xs μ=>mkL m (ys++xs) μ) Q,
  ⟨ds.length,by simp,FS _,AL _,ι1,μ1,[],AH _,.refl _,s1,by simp[ae],?_⟩,?_⟩
 ·simpa using h.mono p1 x1
 ·rintro i k H' acc ⟨rfl,hi,hacc,ι',μ',ys,p',x',s',hys,h'⟩
  have wl:=wk.len
  by_cases hlt:i<ds.length
  ·obtain⟨d,ed⟩:∃d,ds[i]? = some d:=⟨ds[i],AC hlt⟩
   have edrop:ds.drop i=d::ds.drop (i+1):=by
    rw[FM hlt]
    rw[AC hlt]at ed
    cases ed;rfl
   rw[edrop]at h'
   simp only[mapR]at h'
   split at h'
   ·rename_i hgd
    right
    refine⟨wk.go i ι' H' μ' p' x' s' hgd hlt,by lia,fun v H2 hy=>?_⟩
    obtain⟨x2,s2,d',ed',hd'⟩:=wk.yld i ι' H' μ' v H2 p' x' s' hgd hlt hy
    rw[ed]at ed';cases ed'
    rw[Res.bind_assoc]at h'
    cases eb:cz tg d (cap.map (fun i=>(σ[i]?).getD none)++List.replicate nl none)with
    | none=>rw[eb]at h';exact h'.elim
    | some σb =>
     rw[eb]at h'
     simp only[qb]at h'
     have hLb:=z6 (cap:=cap) (nl:=nl) ((hL.mono (p1.trans p') (x1.trans x')).mono (AH _) x2)
     refine⟨ι',_,d,σb,hLb,?_,hd',eb,fun σv2 l2 z2 z3 k2=>⟨z7 hs z3 k2,ι',σb,μ',s2,l2,?_⟩⟩
     ·simp[eh]
     ·rw[Res.bind_assoc]at h'
      obtain⟨b,μ2,e2,h2⟩:=h'.bind
      rw[e2]
      intro ι3 b' H3 p3 x3 s3 d3
      cases d3
      cases b with
      | false =>
       refine⟨ds.length-(i+1),by lia,rfl,hlt,by lia,ι3,μ2,ys,p'.trans p3,(x'.trans x2).trans x3,s3,ae.mono p3 (x2.trans x3) _ _ hys,?_⟩
       have h3:=h2.mono p3 (x2.trans x3)
       simpa[Res.bind_assoc]using h3
      | true =>
       simp only[if_true]at h2 ⊢
       rw[Res.bind_assoc]at h2
       obtain⟨y,μ3,e3,h3⟩:=h2.bind
       refine⟨ι3,σb,μ2,s3,l2.mono p3 x3,?_⟩
       rw[e3]
       intro ι4 w H4 p4 x4 s4 d4
       refine⟨ds.length-(i+1),by lia,rfl,hlt,by simp;lia,ι4,μ3,ys++[y],(p'.trans p3).trans p4,((x'.trans x2).trans x3).trans x4,s4,(ae.mono (p3.trans p4) ((x2.trans x3).trans x4) _ _ hys).append (.one d4),?_⟩
       have h4:=h3.mono (p3.trans p4) ((x2.trans x3).trans x4)
       simpa[Res.bind_assoc]using h4
   ·exact h'.elim
  ·have ei:i=ds.length:=by lia
   subst ei
   simp only[List.drop_length,mapR]at h'
   split at h'
   ·rename_i hgd
    refine .inl ⟨wk.stop ι' H' μ' p' x' s' hgd,by lia,fun p hp=>gj s' hys (by simpa using h') hp⟩
   ·exact h'.elim
theorem Fs {e target iter:Expr} {ifs:List Expr} {pos:Pos} {m:Mk} {tg:Tg} {it:It} {cs:Exs} {elt:Ex} (S:CompScope X.env.scope scope X.N Nb cap nl) (hc:X.calm=true) (hi:PI X target iter (tI X.K φ it))
  (B:z5 X scope Nb target ifs e (tG X.K tg) (tTs X.K φ cs) (tE X.K φ elt)) (hf:∀x,foldedSetIterable iter X.env x=pure x) (hs:∀j∈slots tg,cap.length≤j) :
  PE X (.ListComp e [⟨target,iter,ifs,0⟩] scope pos) (tE X.K φ (.comp m cap nl tg it cs elt)) :=
 PE.imp (PE.fq (Cw S hc hi B hf)) fun σv H Q h=>wc hs h
end
end Lp
namespace Lp
open PySem PySem.Spec PyProof.Rows L2
section
variable {X : Cx} {φ : Phi}
theorem cm {K:PySem.W.Frag} {ι:List Addr} {H:Hp} {ds:List D} {v:V} (h:IsD K ι H (.tup ds) v):∃a xs,v=.ref a∧SqT K H a xs∧ae K ι H ds xs:=by
 simpa[IsD]using h
theorem tup_is {K:PySem.W.Frag} {ι:List Addr} {H:Hp} {ds:List D} {a:Addr} {xs:List V} (h:SqT K H a xs) (h2:ae K ι H ds xs):IsD K ι H (.tup ds) (.ref a):=by
 simp only[IsD]
 exact⟨a,xs,rfl,h,h2⟩
theorem bw {K:PySem.W.Frag} {ι:List Addr} {H:Hp} {i:Int} {v:V} (h:IsD K ι H (.int i) v):v=.int i:=by simpa[IsD]using h
theorem n4 {K:PySem.W.Frag} {ι:List Addr} {H:Hp} {i:Bool} {v:V} (h:IsD K ι H (.bl i) v):v=.bl i:=by simpa[IsD]using h
theorem lh {K:PySem.W.Frag} {ι:List Addr} {H:Hp} {μ:Sto} {ds:List D} {xs:List V} {Q:VK} {p:Addr} (hS:Sim K ι H μ) (hd:ae K ι H ds xs) (h:c6 K (RD K) ι H (.ok (.tup ds) μ) Q) (hp:H p=none):Q (.ref p) (upd H p (.tup xs)) :=
 h ι (.ref p) _ (AH _) (.new hp) (hS.new hp) (tup_is (.of au) (ae.mono (AH _) (.new hp) ds xs hd))
theorem we {pins:List (Addr×Obj)} {s:Shared} {σ:St} {H:Hp} {l b:Addr} {xs zs:List V} {Q:VK} (I:Inv X pins σ H s) (hl:LsL X.K H l xs) (hb:LsL X.K H b zs) (hz:xs.length+zs.length≤sizeLine)
  (q:∀p,H p=none→Q (.ref p) (upd H p (.lst (xs++zs)))):wpAny (model X.prog X.w) X.A (binaryOp .Add (.ref l) (.ref b)) (EP X pins σ Q) X.xe s:=by
 obtain⟨z,its,n,r,hl,e⟩:=I.ls hl
 obtain⟨z2,its2,n2,r2,hl2,e2⟩:=I.ls hb
 refine PySem.P.add_list e e2 ?_ (by rw[AE,AE];lia)
 have ea:its.toArray++its2.toArray=(its++its2).toArray:=by simp
 rw[ea]
 exact⟨.ref _,_,I.lnew (t':=s.toks) (r.append r2) (by rw[CH];lia),rfl,q _ I.fresh⟩
theorem z8 {pins:List (Addr×Obj)} {s:Shared} {σ:St} {H:Hp} {l:Addr} {k:Int} {t:Tok} {xs:List V} {Q:VK} (I:Inv X pins σ H s) (hH:LsL X.K H l xs) (h1:-(2 ^ 63)≤k) (h2:k<2 ^ 63) (hz:xs.length*k.toNat≤sizeLine)
  (q:∀p,H p=none→Q (.ref p) (upd H p (.lst (List.replicate k.toNat xs).flatten))):wpAny (model X.prog X.w) X.A (binaryOp .Mult (.ref l) (.int k t)) (EP X pins σ Q) X.xe s:=by
 obtain⟨z,its,n,r,hl,e⟩:=I.ls hH
 have hlen:its.toArray.size*k.toNat≤sizeLine:=by rw[AE,←hl];exact hz
 have hcap:¬its.toArray.size*k.toNat > (2 ^ 63-1) / 8:=by
  have:(sizeLine:Nat)≤(2 ^ 63-1) / 8:=by decide
  lia
 have hfit:¬(!Builtin.List.listFitsIndex k)=true:=by
  rw[fitsIndex_both h1 h2]
  exact AW
 have hlong:¬Builtin.List.listTooLong (its.toArray.size*k.toNat)=true:=by
  rw[zr hlen]
  exact AW
 have hnew:List.foldl (fun x1 x2=>x1++x2) #[] (List.replicate (if its.toArray.isEmpty=true then 0 else k.toNat) its.toArray)=(List.replicate k.toNat its).flatten.toArray:=by
  have f0:∀m:Nat,List.foldl (fun x1 x2=>x1++x2) #[] (List.replicate m its.toArray)=(List.replicate m its).flatten.toArray:=fun m=>by
   have:=foldl_rep its m []
   rw[List.nil_append]at this
   exact this
  rw[f0]
  cases its with
  | nil=>simp
  | cons a r'=>rw[if_neg (by simp)]
 refine wpAny_binaryOp_repeat_ref (T:="list") (U:="int") (by decide) ⟨_,e,rfl⟩ (fun s'=>typeIs_int s' k t) noFill_list_mul F.fills_int_mul F.slot_int_rmul repeat_list F.slot_int_index.lookup
  (GG F.slot_int_rmul (typeIs_int s k t) F.entry_int_rmul (F.args_int_rmul_2 _ _) (int___rmul___int_list k t l its.toArray n)
   ⟨e,rfl,⟨_,e,rfl⟩,GG F.slot_list_mul ⟨_,e,rfl⟩ F.entry_list_mul (F.args_list_mul_2 _ _) (AutoListH.list___mul___list_int_3 l its.toArray n k t hfit hcap hlong) ⟨e,?_⟩⟩)
 rw[hnew]
 exact⟨.ref _,_,I.lnew (t':=s.toks) (r.rep k.toNat) (by rw[len_rep,Nat.mul_comm];exact hz),rfl,q _ I.fresh⟩
theorem Cz {pins:List (Addr×Obj)} {s:Shared} {σ:St} {H:Hp} {a b:Addr} {ys:List V} {Q:VK} (I:Inv X pins σ H s) (ha:SqT X.K H a []) (hb:SqT X.K H b ys) (q:Q (.ref b) H) :
  wpAny (model X.prog X.w) X.A (binaryOp .Add (.ref a) (.ref b)) (EP X pins σ Q) X.xe s:=by
 obtain⟨its,r1,p1,_⟩:=I.tuple ha
 obtain⟨its2,r2,p2,_⟩:=I.tuple hb
 have e1:its=[]:=by cases r1;rfl
 subst e1
 obtain⟨⟨cls,dd,data,sl⟩,ho,hc,n,hd⟩:=id p1
 obtain⟨⟨cls2,dd2,data2,sl2⟩,ho2,hc2,n2,hd2⟩:=id p2
 simp only at hc hd hc2 hd2
 subst hc hd hc2 hd2
 exact concat_meets ⟨_,ho,rfl⟩ ⟨_,ho2,rfl⟩ FZ seq_tuple_add EK EF (DY _ _)
   (tuple_addW0 a b ([]:List Value).toArray its2.toArray n n2 dd dd2 sl sl2 (by simp)) ⟨ho,ho2,⟨.ref b,H,I,rfl,q⟩⟩
theorem Ft {op:Operator} {m:Mk}:OpR X (binaryOp op) (rOp X.K (opD op m)):=by
 intro pins s σ H x y v u Q I rx ry ⟨ι,d,e,μ,hS,hd,he,h⟩
 unfold opD at h
 split at h
 ·rename_i i j
  cases bw hd
  cases bw he
  unfold opI at h
  split at h
  ·exact op_add pins s σ H _ _ v u Q I rx ry ⟨i,j,rfl,rfl,h.ok hS (by simp[IsD])⟩
  ·exact op_sub pins s σ H _ _ v u Q I rx ry ⟨i,j,rfl,rfl,h.ok hS (by simp[IsD])⟩
  ·split at h
   ·rename_i hc
    exact op_mul pins s σ H _ _ v u Q I rx ry ⟨i,j,rfl,rfl,hc,h.ok hS (by simp[IsD])⟩
   ·exact h.elim
  ·split at h
   ·rename_i hc
    exact B7 pins s σ H _ _ v u Q I rx ry ⟨i,j,rfl,rfl,hc,h.ok hS (by simp[IsD])⟩
   ·exact h.elim
  ·split at h
   ·rename_i hc
    exact op_mod pins s σ H _ _ v u Q I rx ry ⟨i,j,rfl,rfl,hc,h.ok hS (by simp[IsD])⟩
   ·exact h.elim
  ·split at h
   ·rename_i hc
    exact op_pow pins s σ H _ _ v u Q I rx ry ⟨i,j,rfl,rfl,hc,h.ok hS (by simp[IsD])⟩
   ·exact h.elim
  ·split at h
   ·rename_i hc
    exact op_shr pins s σ H _ _ v u Q I rx ry ⟨i,j,rfl,rfl,hc,h.ok hS (by simp[IsD])⟩
   ·exact h.elim
  ·exact h.elim
 ·rename_i xs ys
  split at h
  ·split at h
   ·rename_i hz
    obtain⟨a,vs,rfl,ha,hvs⟩:=cm hd
    obtain⟨b,ws,rfl,hb,hws⟩:=cm he
    cases rx
    cases ry
    rw[f6]at hz
    by_cases hx:vs=[]
    ·subst hx
     have e1:xs=[]:=by have:=hvs.length;simpa using this.symm
     subst e1
     exact Cz I ha hb (h.ok hS he)
    ·refine Cd pins s σ H (.ref a) (.ref b) _ _ Q I rfl rfl ⟨a,b,vs,ws,rfl,rfl,ha,hb,hx,by rw[hvs.length,hws.length];exact hz,fun z=>?_,fun z p hp=>lh hS (hvs.append hws) h hp⟩
     subst z
     have e1:ys=[]:=by have:=hws.length;simpa using this.symm
     subst e1
     exact h.ok hS (by simpa using hd)
   ·exact h.elim
  ·exact h.elim
 ·rename_i j _
  cases bw he
  split at h
  ·rename_i es
   split at h
   ·rename_i hz
    obtain⟨a,xs,rfl,ha,hxs⟩:=fj hS hd es
    cases rx
    obtain⟨t,rfl⟩:=ry
    rw[f6]at hz
    exact v9 (z8 I ha hz.2.1 hz.2.2 (by rw[hxs.length];exact hz.1) fun p hp=>gj hS (hxs.rep _) h hp)
   ·exact h.elim
  ·exact h.elim
 ·split at h
  ·rename_i es1 es2
   split at h
   ·rename_i hz
    obtain⟨a,xs,rfl,ha,hxs⟩:=fj hS hd es1
    obtain⟨b,ys,rfl,hb,hys⟩:=fj hS he es2
    cases rx
    cases ry
    rw[f6]at hz
    exact v9 (we I ha hb (by rw[hxs.length,hys.length];exact hz) fun p hp=>gj hS (hxs.append hys) h hp)
   ·exact h.elim
  ·exact h.elim
end
end Lp
namespace Lp
open PySem PySem.Spec PyProof.Rows L2
section
variable (K : PySem.W.Frag) (H : Hp)
mutual
noncomputable def IsW:D→V→Prop
 | .non,v=>v=.non
 | .bl b,v=>v=.bl b
 | .int i,v=>v=.int i
 | .str x,v=>v=.str x
 | .tup ds,v=>∃a xs,v=.ref a∧SqT K H a xs∧cy ds xs
 | .lst ds,v=>∃a xs,v=.ref a∧LsL K H a xs∧cy ds xs
 | .loc _,_=>False
noncomputable def cy:List D→List V→Prop
 | [],xs=>xs=[]
 | d::ds,xs=>∃v r,xs=v::r∧IsW d v∧cy ds r
end
end
section
variable {K : PySem.W.Frag} {H : Hp}
theorem cy.length:∀{ds:List D} {xs:List V},cy K H ds xs→xs.length=ds.length
 | [],xs,h=>by simp only[cy]at h;subst h;rfl
 | d::ds,xs,h=>by
  simp only[cy]at h
  obtain⟨v,r,rfl,_,t⟩:=h
  simp[cy.length t]
theorem cy.get:∀{ds:List D} {xs:List V} {i:Nat} {d:D},cy K H ds xs→ds[i]? = some d→∃v,xs[i]? = some v∧IsW K H d v
 | [],_,_,_,_,e=>by simp at e
 | d::ds,xs,0,_,h,e=>by
  simp only[cy]at h
  obtain⟨v,r,rfl,q,_⟩:=h
  simp at e;subst e
  exact⟨v,rfl,q⟩
 | d::ds,xs,i+1,x,h,e=>by
  simp only[cy]at h
  obtain⟨v,r,rfl,_,t⟩:=h
  obtain⟨w,h1,h2⟩:=cy.get (i:=i) (d:=x) t (by simpa using e)
  exact⟨w,by simpa using h1,h2⟩
theorem cj {ds:List D} {v:V} (h:IsW K H (.tup ds) v):∃a xs,v=.ref a∧SqT K H a xs∧cy K H ds xs:=by simpa[IsW]using h
theorem wj {ι:List Addr} {μ:Sto} (S:Sim K ι H μ) (f:D→Option D) (hf:∀d e v,f d=some e→IsD K ι H d v→IsW K H e v):∀{ds es:List D} {xs:List V},bp (ds.map f)=some es→ae K ι H ds xs→cy K H es xs
 | [],es,xs,h,hd=>by
  simp only[EL,bp,BC]at h
  subst h
  simpa[ae,cy]using hd
 | d::ds,es,xs,h,hd=>by
  simp only[AZ]at h
  cases e1:f d with
  | none=>rw[e1]at h;simp[bp]at h
  | some e =>
   rw[e1]at h
   simp only[bp]at h
   cases e2:bp (ds.map f)with
   | none=>rw[e2]at h;cases h
   | some r =>
    rw[e2]at h
    cases h
    simp only[ae]at hd
    obtain⟨v,t,rfl,q,hd⟩:=hd
    simp only[cy]
    exact⟨v,t,rfl,hf d e v e1 q,wj S f hf e2 hd⟩
theorem n8 {ι:List Addr} {μ:Sto} (S:Sim K ι H μ):∀(k:Nat) (d e:D) (v:V),aj μ k d=some e→IsD K ι H d v→IsW K H e v
 | 0,d,e,v,h,hd=>by
  cases d<;>simp_all[aj,flat,IsD,IsW]<;>(subst h;simp[IsW])
 | k+1,d,e,v,h,hd=>by
  have ih:=n8 S k
  have sub:∀{ι':List Addr} {ds es:List D} {xs:List V},ι' <+: ι→bp (ds.map (aj μ k))=some es→ae K ι' H ds xs→cy K H es xs:=fun p h hd=>wj S _ ih h (ae.mono p (.refl _) _ _ hd)
  cases d with
  | tup ds =>
   simp only[aj]at h
   cases e1:bp (ds.map (aj μ k))with
   | none=>rw[e1]at h;cases h
   | some es =>
    rw[e1]at h;cases h
    obtain⟨a,xs,rfl,hq,hds⟩:=cm hd
    simp only[IsW]
    exact⟨a,xs,rfl,hq,sub (AH _) e1 hds⟩
  | lst ds =>
   simp only[aj]at h
   cases e1:bp (ds.map (aj μ k))with
   | none=>rw[e1]at h;cases h
   | some es =>
    rw[e1]at h;cases h
    obtain⟨a,xs,rfl,hq,hds⟩:∃a xs,v=.ref a∧FzL K H a xs∧ae K ι H ds xs:=by simpa[IsD]using hd
    simp only[IsW]
    exact⟨a,xs,rfl,.inr hq,sub (AH _) e1 hds⟩
  | loc n =>
   obtain⟨a,rfl,hn⟩:∃a,v=.ref a∧ι[n]? = some a:=by simpa[IsD]using hd
   simp only[aj]at h
   cases em:μ[n]? with
   | none=>rw[em]at h;cases h
   | some o =>
    obtain⟨a',q',ho⟩:=S.at em
    rw[hn]at q';cases q'
    rw[em]at h
    cases o with
    | l ds =>
     simp only at h
     obtain⟨xs,f1,f2⟩:=ho
     cases e1:bp (ds.map (aj μ k))with
     | none=>rw[e1]at h;cases h
     | some es =>
      rw[e1]at h;cases h
      simp only[IsW]
      exact⟨a,xs,rfl,(.inl f1),sub CF e1 f2⟩
    | r ds =>
     simp only at h
     obtain⟨xs,f1,f2⟩:=ho
     cases e1:bp (ds.map (aj μ k))with
     | none=>rw[e1]at h;cases h
     | some es =>
      rw[e1]at h;cases h
      simp only[IsW]
      exact⟨a,xs,rfl,(.inl f1),sub (AH _) e1 f2⟩
    | _=>cases h
  | _=>simp only[aj]at h;cases h;simpa[IsD,IsW]using hd
mutual
theorem IsW.ofD:∀{d:D} {v:V},IsD K [] H d v→IsW K H d v
 | .non,v,h=>by simpa[IsD,IsW]using h
 | .bl _,v,h=>by simpa[IsD,IsW]using h
 | .int _,v,h=>by simpa[IsD,IsW]using h
 | .str _,v,h=>by simpa[IsD,IsW]using h
 | .tup ds,v,h=>by
  obtain⟨a,xs,rfl,hq,hds⟩:=cm h
  simp only[IsW]
  exact⟨a,xs,rfl,hq,cy.ofD hds⟩
 | .lst ds,v,h=>by
  obtain⟨a,xs,rfl,hq,hds⟩:∃a xs,v=.ref a∧FzL K H a xs∧ae K [] H ds xs:=by simpa[IsD]using h
  simp only[IsW]
  exact⟨a,xs,rfl,.inr hq,cy.ofD hds⟩
 | .loc n,v,h=>by simp[IsD]at h
theorem cy.ofD:∀{ds:List D} {xs:List V},ae K [] H ds xs→cy K H ds xs
 | [],xs,h=>by simpa[ae,cy]using h
 | d::ds,xs,h=>by
  simp only[ae]at h
  obtain⟨v,r,rfl,q,t⟩:=h
  simp only[cy]
  exact⟨v,r,rfl,IsW.ofD q,cy.ofD t⟩
end
theorem je {μ:Sto} {k:Nat} (ih:∀d e,aj μ k d=some e→D.pureN k e=true):∀{ds es:List D},bp (ds.map (aj μ k))=some es→es.all (D.pureN k)=true
 | [],es,h=>by simp only[EL,bp,BC]at h;subst h;rfl
 | d::ds,es,h=>by
  simp only[AZ]at h
  cases e1:aj μ k d with
  | none=>rw[e1]at h;simp[bp]at h
  | some e =>
   rw[e1]at h
   simp only[bp]at h
   cases e2:bp (ds.map (aj μ k))with
   | none=>rw[e2]at h;cases h
   | some r =>
    rw[e2]at h;cases h
    simp only[BO,ih d e e1,je ih e2,Bool.and_self]
theorem dz {μ:Sto}:∀(k:Nat) (d e:D),aj μ k d=some e→D.pureN k e=true
 | 0,d,e,h=>by
  cases d<;>simp_all[aj,flat]<;>(subst h;rfl)
 | k+1,d,e,h=>by
  have ih:=dz (μ:=μ) k
  have mp:∀{ds:List D} {c:List D→D},(∀es,es.all (D.pureN k)=true→D.pureN (k+1) (c es)=true)→(bp (ds.map (aj μ k))).map c=some e→D.pureN (k+1) e=true:=fun {ds c} hc h=>by
   cases e1:bp (ds.map (aj μ k))with
   | none=>rw[e1]at h;cases h
   | some es=>rw[e1]at h;cases h;exact hc es (je ih e1)
  cases d with
  | tup ds=>simp only[aj]at h;exact mp (c:=.tup) (fun es h=>h) h
  | lst ds=>simp only[aj]at h;exact mp (c:=.lst) (fun es h=>h) h
  | loc n =>
   simp only[aj]at h
   cases em:μ[n]? with
   | none=>rw[em]at h;cases h
   | some o =>
    rw[em]at h
    cases o with
    | l ds=>exact mp (c:=.lst) (fun es h=>h) h
    | r ds=>exact mp (c:=.lst) (fun es h=>h) h
    | _=>cases h
  | _=>simp only[aj]at h;cases h;rfl
end
end Lp
namespace Lp
open PySem PySem.Spec PyProof.Rows L2
open PySem.SeqAt (EqAt RcAt)
section
variable {X : Cx} {φ : Phi} {pins : List (Addr × Obj)} {σ : St} {H : Hp} {s : Shared}
theorem in1_units (A:Around):A.in1.units=A.units+1:=by
 first | rfl | simp[Around.in1]
theorem cb:∀(as bs:List D),as.length=bs.length→ro as bs=(List.range as.length).all fun j=>deq (as.getD j .non) (bs.getD j .non)
 | [],[],_=>rfl
 | a::as,b::bs,h=>by
  rw[ro,cb as bs (by simpa using h),BJ,GH,BO,FC]
  rfl
 | [],_::_,h=>by simp at h
 | _::_,[],h=>by simp at h
theorem eo:∀(as bs:List D),as.length≠bs.length→ro as bs=false
 | [],[],h=>absurd rfl h
 | a::as,b::bs,h=>by rw[ro,eo as bs (by simpa using h),Bool.and_false]
 | [],_::_,_=>rfl
 | _::_,[],_=>rfl
theorem jf:∀(k:Nat) (a b:D) (v:V),D.pureN k a=true→D.pureN k b=true→IsW X.K H a v→IsW X.K H b v→Inv X pins σ H s→deq a b=true:=by
 intro k
 have list:∀k,(∀(a b:D) (v:V),D.pureN k a=true→D.pureN k b=true→IsW X.K H a v→IsW X.K H b v→Inv X pins σ H s→deq a b=true) →
   ∀(as bs:List D) (xs:List V),as.all (D.pureN k)=true→bs.all (D.pureN k)=true→cy X.K H as xs→cy X.K H bs xs→Inv X pins σ H s→ro as bs=true:=by
  intro k ih as
  induction as with
  | nil =>
   intro bs xs _ _ ha hb _
   have e:xs=[]:=by simpa[cy]using ha
   subst e
   have:=hb.length
   have e2:bs=[]:=by simpa using this.symm
   subst e2
   rfl
  | cons a as iha =>
   intro bs xs pa pb ha hb I
   cases bs with
   | nil =>
    have e:xs=[]:=by simpa[cy]using hb
    subst e
    have:=ha.length
    simp at this
   | cons b bs =>
    simp only[cy]at ha hb
    obtain⟨v,r,e,q,t⟩:=ha
    obtain⟨v',r',e',q',t'⟩:=hb
    rw[e]at e'
    cases e'
    simp only[BO,AX]at pa pb
    rw[ro,ih a b v pa.1 pb.1 q q' I,iha bs r pa.2 pb.2 t t' I]
    rfl
 have flat:∀(a b:D) (v:V),(∀ds,a≠.tup ds)→(∀ds,a≠.lst ds)→(∀n,a≠.loc n)→(∀n,b≠.loc n)→IsW X.K H a v→IsW X.K H b v→deq a b=true:=by
  intro a b v h1 h2 h3 h4 ha hb
  cases a with
  | tup ds=>exact absurd rfl (h1 ds)
  | lst ds=>exact absurd rfl (h2 ds)
  | loc n=>exact absurd rfl (h3 n)
  | _=>cases b<;>simp_all[IsW,deq]
 induction k with
 | zero =>
  intro a b v pa pb ha hb I
  refine flat a b v ?_ ?_ ?_ ?_ ha hb
  ·intro z e;subst e;simp[D.pureN]at pa
  ·intro z e;subst e;simp[D.pureN]at pa
  ·intro z e;subst e;simp[D.pureN]at pa
  ·intro z e;subst e;simp[D.pureN]at pb
 | succ k ih =>
  intro a b v pa pb ha hb I
  cases a with
  | loc n=>simp[D.pureN]at pa
  | tup as =>
   simp only[IsW]at ha
   obtain⟨p,xs,rfl,hq,hds⟩:=ha
   cases b with
   | tup bs =>
    simp only[IsW]at hb
    obtain⟨p',xs',e,hq',hds'⟩:=hb
    cases e
    have:=I.tuple_inj hq hq'
    subst this
    rw[deq]
    exact list k ih as bs xs (by simpa[D.pureN]using pa) (by simpa[D.pureN]using pb) hds hds' I
   | lst bs =>
    simp only[IsW]at hb
    obtain⟨p',xs',e,hq',hds'⟩:=hb
    cases e
    exfalso
    obtain⟨its,_,⟨o,e1,c1,_⟩,_⟩:=I.tuple hq
    obtain⟨its',_,⟨o',n',e2,c2,_⟩,_⟩:=I.list hq'.sq
    rw[e1]at e2;cases e2
    rw[c1]at c2
    injection c2 with c3
    exact absurd c3 (by decide)
   | loc n=>simp[D.pureN]at pb
   | _=>simp[IsW]at hb
  | lst as =>
   simp only[IsW]at ha
   obtain⟨p,xs,rfl,hq,hds⟩:=ha
   cases b with
   | lst bs =>
    simp only[IsW]at hb
    obtain⟨p',xs',e,hq',hds'⟩:=hb
    cases e
    have:=I.list_inj hq.sq hq'.sq
    subst this
    rw[deq]
    exact list k ih as bs xs (by simpa[D.pureN]using pa) (by simpa[D.pureN]using pb) hds hds' I
   | tup bs =>
    simp only[IsW]at hb
    obtain⟨p',xs',e,hq',hds'⟩:=hb
    cases e
    exfalso
    obtain⟨its,_,⟨o,e1,c1,_⟩,_⟩:=I.tuple hq'
    obtain⟨its',_,⟨o',n',e2,c2,_⟩,_⟩:=I.list hq.sq
    rw[e1]at e2;cases e2
    rw[c1]at c2
    injection c2 with c3
    exact absurd c3 (by decide)
   | loc n=>simp[D.pureN]at pb
   | _=>simp[IsW]at hb
  | _ =>
   refine flat _ b v (by intro _ z;cases z) (by intro _ z;cases z) (by intro _ z;cases z) ?_ ha hb
   intro z e;subst e;simp[D.pureN]at pb
theorem n9 (A:Around) (a b:D) (x y:V) (u v:Value) (pa:D.pureN 0 a=true) (pb:D.pureN 0 b=true) (ha:IsW X.K H a x) (hb:IsW X.K H b y) (ru:RelV x u) (rv:RelV y v):EqAt A s u v (deq a b):=by
 have b2:∀(a b:Int),decide (a=b)=(a==b):=fun a b=>(BP a b).symm
 cases a with
 | tup _=>simp[D.pureN]at pa
 | lst _=>simp[D.pureN]at pa
 | loc _=>simp[D.pureN]at pa
 | non =>
  have ex:x=.non:=by simpa[IsW]using ha
  subst ex
  cases(show u=Value.none from ru)
  cases b with
  | tup _=>simp[D.pureN]at pb
  | lst _=>simp[D.pureN]at pb
  | loc _=>simp[D.pureN]at pb
  | non=>cases(show y=.non by simpa[IsW]using hb);cases(show v=Value.none from rv);exact EqAt.same _
  | bl c=>cases(show y=.bl c by simpa[IsW]using hb);cases(show v=Value.bool c from rv);exact EqAt.none_bool _
  | int c=>cases(show y=.int c by simpa[IsW]using hb);obtain⟨t,rfl⟩:=rv;exact EqAt.none_int _ _
  | str c=>cases(show y=.str c by simpa[IsW]using hb);obtain⟨t,rfl⟩:=rv;exact EqAt.none_str _ _
 | bl d =>
  have ex:x=.bl d:=by simpa[IsW]using ha
  subst ex
  cases(show u=Value.bool d from ru)
  cases b with
  | tup _=>simp[D.pureN]at pb
  | lst _=>simp[D.pureN]at pb
  | loc _=>simp[D.pureN]at pb
  | non=>cases(show y=.non by simpa[IsW]using hb);cases(show v=Value.none from rv);exact EqAt.bool_none _
  | bl c=>cases(show y=.bl c by simpa[IsW]using hb);cases(show v=Value.bool c from rv);exact EqAt.bool_bool _ _
  | int c=>cases(show y=.int c by simpa[IsW]using hb);obtain⟨t,rfl⟩:=rv;rw[deq,b2];exact EqAt.bool_int _ _ _
  | str c=>cases(show y=.str c by simpa[IsW]using hb);obtain⟨t,rfl⟩:=rv;exact EqAt.bool_str _ _ _
 | int d =>
  have ex:x=.int d:=by simpa[IsW]using ha
  subst ex
  obtain⟨t',rfl⟩:=ru
  cases b with
  | tup _=>simp[D.pureN]at pb
  | lst _=>simp[D.pureN]at pb
  | loc _=>simp[D.pureN]at pb
  | non=>cases(show y=.non by simpa[IsW]using hb);cases(show v=Value.none from rv);exact EqAt.int_none _ _
  | bl c=>cases(show y=.bl c by simpa[IsW]using hb);cases(show v=Value.bool c from rv);rw[deq,b2];exact EqAt.int_bool _ _ _
  | int c=>cases(show y=.int c by simpa[IsW]using hb);obtain⟨t,rfl⟩:=rv;rw[deq,b2];exact EqAt.int_int _ _ _ _
  | str c=>cases(show y=.str c by simpa[IsW]using hb);obtain⟨t,rfl⟩:=rv;exact EqAt.int_str _ _ _ _
 | str d =>
  have ex:x=.str d:=by simpa[IsW]using ha
  subst ex
  obtain⟨t',rfl⟩:=ru
  cases b with
  | tup _=>simp[D.pureN]at pb
  | lst _=>simp[D.pureN]at pb
  | loc _=>simp[D.pureN]at pb
  | non=>cases(show y=.non by simpa[IsW]using hb);cases(show v=Value.none from rv);exact EqAt.str_none _ _
  | bl c=>cases(show y=.bl c by simpa[IsW]using hb);cases(show v=Value.bool c from rv);exact EqAt.str_bool _ _ _
  | int c=>cases(show y=.int c by simpa[IsW]using hb);obtain⟨t,rfl⟩:=rv;exact EqAt.str_int _ _ _ _
  | str c =>
   cases(show y=.str c by simpa[IsW]using hb);obtain⟨t,rfl⟩:=rv
   have e:deq (.str d) (.str c)=(d==c):=by rw[deq];exact(BP d c).symm
   rw[e];exact EqAt.str_str _ _ _ _
theorem Be (I:Inv X pins σ H s):∀(k:Nat) (A:Around) (a b:D) (x y:V) (u v:Value),A.units+k<cLine→D.pureN k a=true→D.pureN k b=true→IsW X.K H a x→IsW X.K H b y→RelV x u→RelV y v→EqAt A s u v (deq a b):=by
 intro k
 induction k with
 | zero=>exact fun A a b x y u v _ pa pb ha hb ru rv=>n9 A a b x y u v pa pb ha hb ru rv
 | succ k ih =>
  intro A a b x y u v hu pa pb ha hb ru rv
  have hu0:A.units<cLine:=by lia
  have each:∀(as bs:List D) (xs ys:List V) (is js:List Value),as.all (D.pureN k)=true→bs.all (D.pureN k)=true→cy X.K H as xs→cy X.K H bs ys→a9 xs is→a9 ys js →
    ∀j (h1:j<is.toArray.size) (h2:j<js.toArray.size),EqAt A.in1 s is.toArray[j] js.toArray[j] (deq (as.getD j .non) (bs.getD j .non)):=by
   intro as bs xs ys is js pas pbs has hbs hvx hvy j h1 h2
   have l1:as.length=is.length:=by rw[←has.length,hvx.length]
   have l2:bs.length=js.length:=by rw[←hbs.length,hvy.length]
   have j1:j<as.length:=by rw[l1];simpa using h1
   have j2:j<bs.length:=by rw[l2];simpa using h2
   obtain⟨p,e1,q1⟩:=has.get (AC j1)
   obtain⟨p',e1',q1'⟩:=hbs.get (AC j2)
   obtain⟨w,e2,q2⟩:=hvx.get e1
   obtain⟨w',e2',q2'⟩:=hvy.get e1'
   have g1:is.toArray[j]=w:=by
    have:is[j]? = some is.toArray[j]:=by simp[AC (show j<is.length by lia)]
    rw[this]at e2;exact BF e2
   have g2:js.toArray[j]=w':=by
    have:js[j]? = some js.toArray[j]:=by simp[AC (show j<js.length by lia)]
    rw[this]at e2';exact BF e2'
   rw[g1,g2,AU,AU,AC j1,AC j2]
   exact ih A.in1 _ _ p p' w w' (by rw[in1_units];lia) (AT.mp pas _ (BZ j1)) (AT.mp pbs _ (BZ j2)) q1 q1' q2 q2'
  have flat0:∀d:D,D.pureN (k+1) d=true→(∀ds,d≠.tup ds)→(∀ds,d≠.lst ds)→D.pureN 0 d=true:=fun d h h1 h2=>by
   cases d with
   | tup ds=>exact absurd rfl (h1 ds)
   | lst ds=>exact absurd rfl (h2 ds)
   | loc n=>simp[D.pureN]at h
   | _=>rfl
  cases a with
  | loc n=>simp[D.pureN]at pa
  | tup as =>
   have pas:as.all (D.pureN k)=true:=by simpa[D.pureN]using pa
   obtain⟨p,xs,rfl,hq,hds⟩:=cj ha
   cases(show u=Value.ref p from ru)
   obtain⟨its,hv,ht,hz⟩:=I.tuple hq
   have ht':s.heap.IsTuple p its.toArray:=ht
   cases b with
   | loc n=>simp[D.pureN]at pb
   | tup bs =>
    have pbs:bs.all (D.pureN k)=true:=by simpa[D.pureN]using pb
    obtain⟨p',xs',rfl,hq',hds'⟩:=cj hb
    cases(show v=Value.ref p' from rv)
    obtain⟨its',hv',ht2,hz'⟩:=I.tuple hq'
    by_cases hp:p=p'
    ·subst hp
     rw[jf (k+1) _ _ _ pa pb ha hb I]
     exact EqAt.same _
    ·refine EqAt.of_refs hp ?_
     have q:=RcAt.tuples (A:=A) ht' (show s.heap.IsTuple p' its'.toArray from ht2) hu0 (each as bs xs xs' its its' pas pbs hds hds' hv hv')
     have l1:as.length=its.length:=by rw[←hds.length,hv.length]
     have l2:bs.length=its'.length:=by rw[←hds'.length,hv'.length]
     have e:((List.range (min its.toArray.size its'.toArray.size)).all (fun j=>deq (as.getD j .non) (bs.getD j .non))&&its.toArray.size==its'.toArray.size)=deq (.tup as) (.tup bs):=by
      rw[deq]
      simp only[AE,←l1,←l2]
      by_cases hl:as.length=bs.length
      ·rw[cb as bs hl,←hl];simp
      ·rw[eo as bs hl];simp[hl]
     rw[e]at q
     exact q
   | lst bs =>
    obtain⟨p',xs',rfl,hq',hds'⟩:∃a xs,y=.ref a∧LsL X.K H a xs∧cy X.K H bs xs:=by simpa[IsW]using hb
    cases(show v=Value.ref p' from rv)
    obtain⟨z,its',n',hv',_,hg⟩:=I.ls hq'
    exact EqAt.tuple_list ht' ⟨_,hg,rfl,n',rfl⟩ hu0
   | non=>cases(show y=.non by simpa[IsW]using hb);cases(show v=Value.none from rv);exact EqAt.tuple_none ht' hu0
   | bl c=>cases(show y=.bl c by simpa[IsW]using hb);cases(show v=Value.bool c from rv);exact EqAt.tuple_bool _ ht' hu0
   | int c=>cases(show y=.int c by simpa[IsW]using hb);obtain⟨t,rfl⟩:=rv;exact EqAt.tuple_int _ _ ht' hu0
   | str c=>cases(show y=.str c by simpa[IsW]using hb);obtain⟨t,rfl⟩:=rv;exact EqAt.tuple_str _ _ ht' hu0
  | lst as =>
   have pas:as.all (D.pureN k)=true:=by simpa[D.pureN]using pa
   obtain⟨p,xs,rfl,hq,hds⟩:∃a xs,x=.ref a∧LsL X.K H a xs∧cy X.K H as xs:=by simpa[IsW]using ha
   cases(show u=Value.ref p from ru)
   obtain⟨z,its,n,hv,_,hg⟩:=I.ls hq
   have hl':s.heap.IsList p its.toArray:=⟨_,hg,rfl,n,rfl⟩
   cases b with
   | loc n=>simp[D.pureN]at pb
   | lst bs =>
    have pbs:bs.all (D.pureN k)=true:=by simpa[D.pureN]using pb
    obtain⟨p',xs',rfl,hq',hds'⟩:∃a xs,y=.ref a∧LsL X.K H a xs∧cy X.K H bs xs:=by simpa[IsW]using hb
    cases(show v=Value.ref p' from rv)
    obtain⟨z',its',n',hv',_,hg'⟩:=I.ls hq'
    have hl2:s.heap.IsList p' its'.toArray:=⟨_,hg',rfl,n',rfl⟩
    by_cases hp:p=p'
    ·subst hp
     rw[jf (k+1) _ _ _ pa pb ha hb I]
     exact EqAt.same _
    ·refine EqAt.of_refs hp ?_
     have l1:as.length=its.length:=by rw[←hds.length,hv.length]
     have l2:bs.length=its'.length:=by rw[←hds'.length,hv'.length]
     by_cases hl:as.length=bs.length
     ·have q:=RcAt.lists (A:=A) hl' hl2 (by simp only[AE];lia) hu0 (each as bs xs xs' its its' pas pbs hds hds' hv hv')
      have e:(List.range its.toArray.size).all (fun j=>deq (as.getD j .non) (bs.getD j .non))=deq (.lst as) (.lst bs):=by
       rw[deq,cb as bs hl]
       simp only[AE,←l1]
      rw[e]at q
      exact q
     ·rw[deq,eo as bs hl]
      exact RcAt.lists_lengths hl' hl2 (by simp only[AE];simp;lia) hu0
   | tup bs =>
    obtain⟨p',xs',rfl,hq',hds'⟩:=cj hb
    cases(show v=Value.ref p' from rv)
    obtain⟨its',hv',ht2,hz'⟩:=I.tuple hq'
    exact EqAt.list_tuple hl' (show s.heap.IsTuple p' its'.toArray from ht2) hu0
   | non=>cases(show y=.non by simpa[IsW]using hb);cases(show v=Value.none from rv);exact EqAt.list_none hl' hu0
   | bl c=>cases(show y=.bl c by simpa[IsW]using hb);cases(show v=Value.bool c from rv);exact EqAt.list_bool _ hl' hu0
   | int c=>cases(show y=.int c by simpa[IsW]using hb);obtain⟨t,rfl⟩:=rv;exact EqAt.list_int _ _ hl' hu0
   | str c=>cases(show y=.str c by simpa[IsW]using hb);obtain⟨t,rfl⟩:=rv;exact EqAt.list_str _ _ hl' hu0
  | _ =>
   cases b with
   | loc n=>simp[D.pureN]at pb
   | tup bs =>
    obtain⟨p',xs',rfl,hq',hds'⟩:=cj hb
    cases(show v=Value.ref p' from rv)
    obtain⟨its',hv',ht2,hz'⟩:=I.tuple hq'
    have ht':s.heap.IsTuple p' its'.toArray:=ht2
    first
    | (cases(show x=.non by simpa[IsW]using ha);cases(show u=Value.none from ru);exact EqAt.none_tuple ht' hu0)
    | (cases(show x=.bl _ by simpa[IsW]using ha);cases(show u=Value.bool _ from ru);exact EqAt.bool_tuple _ ht' hu0)
    | (cases(show x=.int _ by simpa[IsW]using ha);obtain⟨t,rfl⟩:=ru;exact EqAt.int_tuple _ _ ht' hu0)
    | (cases(show x=.str _ by simpa[IsW]using ha);obtain⟨t,rfl⟩:=ru;exact EqAt.str_tuple _ _ ht' hu0)
   | lst bs =>
    obtain⟨p',xs',rfl,hq',hds'⟩:∃a xs,y=.ref a∧LsL X.K H a xs∧cy X.K H bs xs:=by simpa[IsW]using hb
    cases(show v=Value.ref p' from rv)
    obtain⟨z',its',n',hv',_,hg'⟩:=I.ls hq'
    have hl':s.heap.IsList p' its'.toArray:=⟨_,hg',rfl,n',rfl⟩
    first
    | (cases(show x=.non by simpa[IsW]using ha);cases(show u=Value.none from ru);exact EqAt.none_list hl' hu0)
    | (cases(show x=.bl _ by simpa[IsW]using ha);cases(show u=Value.bool _ from ru);exact EqAt.bool_list _ hl' hu0)
    | (cases(show x=.int _ by simpa[IsW]using ha);obtain⟨t,rfl⟩:=ru;exact EqAt.int_list _ _ hl' hu0)
    | (cases(show x=.str _ by simpa[IsW]using ha);obtain⟨t,rfl⟩:=ru;exact EqAt.str_list _ _ hl' hu0)
   | _=>exact n9 A _ _ x y u v rfl rfl ha hb ru rv
end
end Lp
namespace Lp
open PySem PySem.Spec PyProof.Rows L2
open PySem.SeqAt (EqAt RcAt)
section
variable {X : Cx} {φ : Phi} {pins : List (Addr × Obj)} {σ : St} {H : Hp} {s : Shared}
theorem oa (A:Around) (a b:D) (x y:V) (u v:Value) (pa:D.pureN 0 a=true) (pb:D.pureN 0 b=true) (ha:IsW X.K H a x) (hb:IsW X.K H b y) (ru:RelV x u) (rv:RelV y v):RcAt A s u v (deq a b):=by
 have b2:∀(a b:Int),decide (a=b)=(a==b):=fun a b=>(BP a b).symm
 cases a with
 | tup _=>simp[D.pureN]at pa
 | lst _=>simp[D.pureN]at pa
 | loc _=>simp[D.pureN]at pa
 | non =>
  have ex:x=.non:=by simpa[IsW]using ha
  subst ex
  cases(show u=Value.none from ru)
  cases b with
  | tup _=>simp[D.pureN]at pb
  | lst _=>simp[D.pureN]at pb
  | loc _=>simp[D.pureN]at pb
  | non=>cases(show y=.non by simpa[IsW]using hb);cases(show v=Value.none from rv);exact RcAt.none_none
  | bl c=>cases(show y=.bl c by simpa[IsW]using hb);cases(show v=Value.bool c from rv);exact RcAt.none_bool _
  | int c=>cases(show y=.int c by simpa[IsW]using hb);obtain⟨t,rfl⟩:=rv;exact RcAt.none_int _ _
  | str c=>cases(show y=.str c by simpa[IsW]using hb);obtain⟨t,rfl⟩:=rv;exact RcAt.none_str _ _
 | bl d =>
  have ex:x=.bl d:=by simpa[IsW]using ha
  subst ex
  cases(show u=Value.bool d from ru)
  cases b with
  | tup _=>simp[D.pureN]at pb
  | lst _=>simp[D.pureN]at pb
  | loc _=>simp[D.pureN]at pb
  | non=>cases(show y=.non by simpa[IsW]using hb);cases(show v=Value.none from rv);exact RcAt.bool_none _
  | bl c=>cases(show y=.bl c by simpa[IsW]using hb);cases(show v=Value.bool c from rv);exact RcAt.bool_bool _ _
  | int c=>cases(show y=.int c by simpa[IsW]using hb);obtain⟨t,rfl⟩:=rv;rw[deq,b2];exact RcAt.bool_int _ _ _
  | str c=>cases(show y=.str c by simpa[IsW]using hb);obtain⟨t,rfl⟩:=rv;exact RcAt.bool_str _ _ _
 | int d =>
  have ex:x=.int d:=by simpa[IsW]using ha
  subst ex
  obtain⟨t',rfl⟩:=ru
  cases b with
  | tup _=>simp[D.pureN]at pb
  | lst _=>simp[D.pureN]at pb
  | loc _=>simp[D.pureN]at pb
  | non=>cases(show y=.non by simpa[IsW]using hb);cases(show v=Value.none from rv);exact RcAt.int_none _ _
  | bl c=>cases(show y=.bl c by simpa[IsW]using hb);cases(show v=Value.bool c from rv);rw[deq,b2];exact RcAt.int_bool _ _ _
  | int c=>cases(show y=.int c by simpa[IsW]using hb);obtain⟨t,rfl⟩:=rv;rw[deq,b2];exact RcAt.int_int _ _ _ _
  | str c=>cases(show y=.str c by simpa[IsW]using hb);obtain⟨t,rfl⟩:=rv;exact RcAt.int_str _ _ _ _
 | str d =>
  have ex:x=.str d:=by simpa[IsW]using ha
  subst ex
  obtain⟨t',rfl⟩:=ru
  cases b with
  | tup _=>simp[D.pureN]at pb
  | lst _=>simp[D.pureN]at pb
  | loc _=>simp[D.pureN]at pb
  | non=>cases(show y=.non by simpa[IsW]using hb);cases(show v=Value.none from rv);exact RcAt.str_none _ _
  | bl c=>cases(show y=.bl c by simpa[IsW]using hb);cases(show v=Value.bool c from rv);exact RcAt.str_bool _ _ _
  | int c=>cases(show y=.int c by simpa[IsW]using hb);obtain⟨t,rfl⟩:=rv;exact RcAt.str_int _ _ _ _
  | str c =>
   cases(show y=.str c by simpa[IsW]using hb);obtain⟨t,rfl⟩:=rv
   have e:deq (.str d) (.str c)=(d==c):=by rw[deq];exact(BP d c).symm
   rw[e];exact RcAt.str_str _ _ _ _
theorem Bf (I:Inv X pins σ H s):∀(k:Nat) (A:Around) (a b:D) (x y:V) (u v:Value),A.units+k<cLine→D.pureN k a=true→D.pureN k b=true→IsW X.K H a x→IsW X.K H b y→RelV x u→RelV y v→RcAt A s u v (deq a b):=by
 intro k
 cases k with
 | zero=>exact fun A a b x y u v _ pa pb ha hb ru rv=>oa A a b x y u v pa pb ha hb ru rv
 | succ k =>
  have ih:=Be I k
  intro A a b x y u v hu pa pb ha hb ru rv
  have hu0:A.units<cLine:=by lia
  have each:∀(as bs:List D) (xs ys:List V) (is js:List Value),as.all (D.pureN k)=true→bs.all (D.pureN k)=true→cy X.K H as xs→cy X.K H bs ys→a9 xs is→a9 ys js →
    ∀j (h1:j<is.toArray.size) (h2:j<js.toArray.size),EqAt A.in1 s is.toArray[j] js.toArray[j] (deq (as.getD j .non) (bs.getD j .non)):=by
   intro as bs xs ys is js pas pbs has hbs hvx hvy j h1 h2
   have l1:as.length=is.length:=by rw[←has.length,hvx.length]
   have l2:bs.length=js.length:=by rw[←hbs.length,hvy.length]
   have j1:j<as.length:=by rw[l1];simpa using h1
   have j2:j<bs.length:=by rw[l2];simpa using h2
   obtain⟨p,e1,q1⟩:=has.get (AC j1)
   obtain⟨p',e1',q1'⟩:=hbs.get (AC j2)
   obtain⟨w,e2,q2⟩:=hvx.get e1
   obtain⟨w',e2',q2'⟩:=hvy.get e1'
   have g1:is.toArray[j]=w:=by
    have:is[j]? = some is.toArray[j]:=by simp[AC (show j<is.length by lia)]
    rw[this]at e2;exact BF e2
   have g2:js.toArray[j]=w':=by
    have:js[j]? = some js.toArray[j]:=by simp[AC (show j<js.length by lia)]
    rw[this]at e2';exact BF e2'
   rw[g1,g2,AU,AU,AC j1,AC j2]
   exact ih A.in1 _ _ p p' w w' (by rw[in1_units];lia) (AT.mp pas _ (BZ j1)) (AT.mp pbs _ (BZ j2)) q1 q1' q2 q2'
  have flat0:∀d:D,D.pureN (k+1) d=true→(∀ds,d≠.tup ds)→(∀ds,d≠.lst ds)→D.pureN 0 d=true:=fun d h h1 h2=>by
   cases d with
   | tup ds=>exact absurd rfl (h1 ds)
   | lst ds=>exact absurd rfl (h2 ds)
   | loc n=>simp[D.pureN]at h
   | _=>rfl
  cases a with
  | loc n=>simp[D.pureN]at pa
  | tup as =>
   have pas:as.all (D.pureN k)=true:=by simpa[D.pureN]using pa
   obtain⟨p,xs,rfl,hq,hds⟩:=cj ha
   cases(show u=Value.ref p from ru)
   obtain⟨its,hv,ht,hz⟩:=I.tuple hq
   have ht':s.heap.IsTuple p its.toArray:=ht
   cases b with
   | loc n=>simp[D.pureN]at pb
   | tup bs =>
    have pbs:bs.all (D.pureN k)=true:=by simpa[D.pureN]using pb
    obtain⟨p',xs',rfl,hq',hds'⟩:=cj hb
    cases(show v=Value.ref p' from rv)
    obtain⟨its',hv',ht2,hz'⟩:=I.tuple hq'
    ·skip
     have q:=RcAt.tuples (A:=A) ht' (show s.heap.IsTuple p' its'.toArray from ht2) hu0 (each as bs xs xs' its its' pas pbs hds hds' hv hv')
     have l1:as.length=its.length:=by rw[←hds.length,hv.length]
     have l2:bs.length=its'.length:=by rw[←hds'.length,hv'.length]
     have e:((List.range (min its.toArray.size its'.toArray.size)).all (fun j=>deq (as.getD j .non) (bs.getD j .non))&&its.toArray.size==its'.toArray.size)=deq (.tup as) (.tup bs):=by
      rw[deq]
      simp only[AE,←l1,←l2]
      by_cases hl:as.length=bs.length
      ·rw[cb as bs hl,←hl];simp
      ·rw[eo as bs hl];simp[hl]
     rw[e]at q
     exact q
   | lst bs =>
    obtain⟨p',xs',rfl,hq',hds'⟩:∃a xs,y=.ref a∧LsL X.K H a xs∧cy X.K H bs xs:=by simpa[IsW]using hb
    cases(show v=Value.ref p' from rv)
    obtain⟨z,its',n',hv',_,hg⟩:=I.ls hq'
    exact RcAt.tuple_list ht' ⟨_,hg,rfl,n',rfl⟩ hu0
   | non=>cases(show y=.non by simpa[IsW]using hb);cases(show v=Value.none from rv);exact RcAt.tuple_none ht' hu0
   | bl c=>cases(show y=.bl c by simpa[IsW]using hb);cases(show v=Value.bool c from rv);exact RcAt.tuple_bool _ ht' hu0
   | int c=>cases(show y=.int c by simpa[IsW]using hb);obtain⟨t,rfl⟩:=rv;exact RcAt.tuple_int _ _ ht' hu0
   | str c=>cases(show y=.str c by simpa[IsW]using hb);obtain⟨t,rfl⟩:=rv;exact RcAt.tuple_str _ _ ht' hu0
  | lst as =>
   have pas:as.all (D.pureN k)=true:=by simpa[D.pureN]using pa
   obtain⟨p,xs,rfl,hq,hds⟩:∃a xs,x=.ref a∧LsL X.K H a xs∧cy X.K H as xs:=by simpa[IsW]using ha
   cases(show u=Value.ref p from ru)
   obtain⟨z,its,n,hv,_,hg⟩:=I.ls hq
   have hl':s.heap.IsList p its.toArray:=⟨_,hg,rfl,n,rfl⟩
   cases b with
   | loc n=>simp[D.pureN]at pb
   | lst bs =>
    have pbs:bs.all (D.pureN k)=true:=by simpa[D.pureN]using pb
    obtain⟨p',xs',rfl,hq',hds'⟩:∃a xs,y=.ref a∧LsL X.K H a xs∧cy X.K H bs xs:=by simpa[IsW]using hb
    cases(show v=Value.ref p' from rv)
    obtain⟨z',its',n',hv',_,hg'⟩:=I.ls hq'
    have hl2:s.heap.IsList p' its'.toArray:=⟨_,hg',rfl,n',rfl⟩
    ·skip
     have l1:as.length=its.length:=by rw[←hds.length,hv.length]
     have l2:bs.length=its'.length:=by rw[←hds'.length,hv'.length]
     by_cases hl:as.length=bs.length
     ·have q:=RcAt.lists (A:=A) hl' hl2 (by simp only[AE];lia) hu0 (each as bs xs xs' its its' pas pbs hds hds' hv hv')
      have e:(List.range its.toArray.size).all (fun j=>deq (as.getD j .non) (bs.getD j .non))=deq (.lst as) (.lst bs):=by
       rw[deq,cb as bs hl]
       simp only[AE,←l1]
      rw[e]at q
      exact q
     ·rw[deq,eo as bs hl]
      exact RcAt.lists_lengths hl' hl2 (by simp only[AE];simp;lia) hu0
   | tup bs =>
    obtain⟨p',xs',rfl,hq',hds'⟩:=cj hb
    cases(show v=Value.ref p' from rv)
    obtain⟨its',hv',ht2,hz'⟩:=I.tuple hq'
    exact RcAt.list_tuple hl' (show s.heap.IsTuple p' its'.toArray from ht2) hu0
   | non=>cases(show y=.non by simpa[IsW]using hb);cases(show v=Value.none from rv);exact RcAt.list_none hl' hu0
   | bl c=>cases(show y=.bl c by simpa[IsW]using hb);cases(show v=Value.bool c from rv);exact RcAt.list_bool _ hl' hu0
   | int c=>cases(show y=.int c by simpa[IsW]using hb);obtain⟨t,rfl⟩:=rv;exact RcAt.list_int _ _ hl' hu0
   | str c=>cases(show y=.str c by simpa[IsW]using hb);obtain⟨t,rfl⟩:=rv;exact RcAt.list_str _ _ hl' hu0
  | _ =>
   cases b with
   | loc n=>simp[D.pureN]at pb
   | tup bs =>
    obtain⟨p',xs',rfl,hq',hds'⟩:=cj hb
    cases(show v=Value.ref p' from rv)
    obtain⟨its',hv',ht2,hz'⟩:=I.tuple hq'
    have ht':s.heap.IsTuple p' its'.toArray:=ht2
    first
    | (cases(show x=.non by simpa[IsW]using ha);cases(show u=Value.none from ru);exact RcAt.none_tuple ht' hu0)
    | (cases(show x=.bl _ by simpa[IsW]using ha);cases(show u=Value.bool _ from ru);exact RcAt.bool_tuple _ ht' hu0)
    | (cases(show x=.int _ by simpa[IsW]using ha);obtain⟨t,rfl⟩:=ru;exact RcAt.int_tuple _ _ ht' hu0)
    | (cases(show x=.str _ by simpa[IsW]using ha);obtain⟨t,rfl⟩:=ru;exact RcAt.str_tuple _ _ ht' hu0)
   | lst bs =>
    obtain⟨p',xs',rfl,hq',hds'⟩:∃a xs,y=.ref a∧LsL X.K H a xs∧cy X.K H bs xs:=by simpa[IsW]using hb
    cases(show v=Value.ref p' from rv)
    obtain⟨z',its',n',hv',_,hg'⟩:=I.ls hq'
    have hl':s.heap.IsList p' its'.toArray:=⟨_,hg',rfl,n',rfl⟩
    first
    | (cases(show x=.non by simpa[IsW]using ha);cases(show u=Value.none from ru);exact RcAt.none_list hl' hu0)
    | (cases(show x=.bl _ by simpa[IsW]using ha);cases(show u=Value.bool _ from ru);exact RcAt.bool_list _ hl' hu0)
    | (cases(show x=.int _ by simpa[IsW]using ha);obtain⟨t,rfl⟩:=ru;exact RcAt.int_list _ _ hl' hu0)
    | (cases(show x=.str _ by simpa[IsW]using ha);obtain⟨t,rfl⟩:=ru;exact RcAt.str_list _ _ hl' hu0)
   | _=>exact oa A _ _ x y u v rfl rfl ha hb ru rv
theorem Fu (hu:X.A.units+8<cLine):OpR X (compareOp .Eq) (rOp X.K (cpD .eq)):=by
 intro pins s σ H x y v u Q I rx ry ⟨ι,a,b,μ,hS,ha,hb,h⟩
 unfold cpD at h
 simp only at h
 split at h
 ·rename_i hp
  exact Bf I 8 X.A a b x y v u hu hp.1 hp.2 (IsW.ofD (IsD.pur hp.1 ha)) (IsW.ofD (IsD.pur hp.2 hb)) rx ry _ _ _ _ ⟨.bl (deq a b),H,I,rfl,h.ok hS (by simp[IsD])⟩
 ·exact h.elim
end
end Lp
namespace Lp
open PySem PySem.Spec PyProof.Rows L2
open PySem.SeqAt (EqAt RcNeAt)
section
variable {X : Cx} {φ : Phi} {pins : List (Addr × Obj)} {σ : St} {H : Hp} {s : Shared}
theorem jg (A:Around) (a b:D) (x y:V) (u v:Value) (pa:D.pureN 0 a=true) (pb:D.pureN 0 b=true) (ha:IsW X.K H a x) (hb:IsW X.K H b y) (ru:RelV x u) (rv:RelV y v):RcNeAt A s u v (!deq a b):=by
 have b2:∀(a b:Int),decide (a=b)=(a==b):=fun a b=>(BP a b).symm
 cases a with
 | tup _=>simp[D.pureN]at pa
 | lst _=>simp[D.pureN]at pa
 | loc _=>simp[D.pureN]at pa
 | non =>
  have ex:x=.non:=by simpa[IsW]using ha
  subst ex
  cases(show u=Value.none from ru)
  cases b with
  | tup _=>simp[D.pureN]at pb
  | lst _=>simp[D.pureN]at pb
  | loc _=>simp[D.pureN]at pb
  | non=>cases(show y=.non by simpa[IsW]using hb);cases(show v=Value.none from rv);exact RcNeAt.none_none
  | bl c=>cases(show y=.bl c by simpa[IsW]using hb);cases(show v=Value.bool c from rv);exact RcNeAt.none_bool _
  | int c=>cases(show y=.int c by simpa[IsW]using hb);obtain⟨t,rfl⟩:=rv;exact RcNeAt.none_int _ _
  | str c=>cases(show y=.str c by simpa[IsW]using hb);obtain⟨t,rfl⟩:=rv;exact RcNeAt.none_str _ _
 | bl d =>
  have ex:x=.bl d:=by simpa[IsW]using ha
  subst ex
  cases(show u=Value.bool d from ru)
  cases b with
  | tup _=>simp[D.pureN]at pb
  | lst _=>simp[D.pureN]at pb
  | loc _=>simp[D.pureN]at pb
  | non=>cases(show y=.non by simpa[IsW]using hb);cases(show v=Value.none from rv);exact RcNeAt.bool_none _
  | bl c=>cases(show y=.bl c by simpa[IsW]using hb);cases(show v=Value.bool c from rv);exact RcNeAt.bool_bool _ _
  | int c=>cases(show y=.int c by simpa[IsW]using hb);obtain⟨t,rfl⟩:=rv;rw[deq,b2];exact RcNeAt.bool_int _ _ _
  | str c=>cases(show y=.str c by simpa[IsW]using hb);obtain⟨t,rfl⟩:=rv;exact RcNeAt.bool_str _ _ _
 | int d =>
  have ex:x=.int d:=by simpa[IsW]using ha
  subst ex
  obtain⟨t',rfl⟩:=ru
  cases b with
  | tup _=>simp[D.pureN]at pb
  | lst _=>simp[D.pureN]at pb
  | loc _=>simp[D.pureN]at pb
  | non=>cases(show y=.non by simpa[IsW]using hb);cases(show v=Value.none from rv);exact RcNeAt.int_none _ _
  | bl c=>cases(show y=.bl c by simpa[IsW]using hb);cases(show v=Value.bool c from rv);rw[deq,b2];exact RcNeAt.int_bool _ _ _
  | int c=>cases(show y=.int c by simpa[IsW]using hb);obtain⟨t,rfl⟩:=rv;rw[deq,b2];exact RcNeAt.int_int _ _ _ _
  | str c=>cases(show y=.str c by simpa[IsW]using hb);obtain⟨t,rfl⟩:=rv;exact RcNeAt.int_str _ _ _ _
 | str d =>
  have ex:x=.str d:=by simpa[IsW]using ha
  subst ex
  obtain⟨t',rfl⟩:=ru
  cases b with
  | tup _=>simp[D.pureN]at pb
  | lst _=>simp[D.pureN]at pb
  | loc _=>simp[D.pureN]at pb
  | non=>cases(show y=.non by simpa[IsW]using hb);cases(show v=Value.none from rv);exact RcNeAt.str_none _ _
  | bl c=>cases(show y=.bl c by simpa[IsW]using hb);cases(show v=Value.bool c from rv);exact RcNeAt.str_bool _ _ _
  | int c=>cases(show y=.int c by simpa[IsW]using hb);obtain⟨t,rfl⟩:=rv;exact RcNeAt.str_int _ _ _ _
  | str c =>
   cases(show y=.str c by simpa[IsW]using hb);obtain⟨t,rfl⟩:=rv
   have e:deq (.str d) (.str c)=(d==c):=by rw[deq];exact(BP d c).symm
   rw[e];exact RcNeAt.str_str _ _ _ _
theorem rz (I:Inv X pins σ H s):∀(k:Nat) (A:Around) (a b:D) (x y:V) (u v:Value),A.units+k<cLine→D.pureN k a=true→D.pureN k b=true→IsW X.K H a x→IsW X.K H b y→RelV x u→RelV y v→RcNeAt A s u v (!deq a b):=by
 intro k
 cases k with
 | zero=>exact fun A a b x y u v _ pa pb ha hb ru rv=>jg A a b x y u v pa pb ha hb ru rv
 | succ k =>
  have ih:=Be I k
  intro A a b x y u v hu pa pb ha hb ru rv
  have hu0:A.units<cLine:=by lia
  have each:∀(as bs:List D) (xs ys:List V) (is js:List Value),as.all (D.pureN k)=true→bs.all (D.pureN k)=true→cy X.K H as xs→cy X.K H bs ys→a9 xs is→a9 ys js →
    ∀j (h1:j<is.toArray.size) (h2:j<js.toArray.size),EqAt A.in1 s is.toArray[j] js.toArray[j] (deq (as.getD j .non) (bs.getD j .non)):=by
   intro as bs xs ys is js pas pbs has hbs hvx hvy j h1 h2
   have l1:as.length=is.length:=by rw[←has.length,hvx.length]
   have l2:bs.length=js.length:=by rw[←hbs.length,hvy.length]
   have j1:j<as.length:=by rw[l1];simpa using h1
   have j2:j<bs.length:=by rw[l2];simpa using h2
   obtain⟨p,e1,q1⟩:=has.get (AC j1)
   obtain⟨p',e1',q1'⟩:=hbs.get (AC j2)
   obtain⟨w,e2,q2⟩:=hvx.get e1
   obtain⟨w',e2',q2'⟩:=hvy.get e1'
   have g1:is.toArray[j]=w:=by
    have:is[j]? = some is.toArray[j]:=by simp[AC (show j<is.length by lia)]
    rw[this]at e2;exact BF e2
   have g2:js.toArray[j]=w':=by
    have:js[j]? = some js.toArray[j]:=by simp[AC (show j<js.length by lia)]
    rw[this]at e2';exact BF e2'
   rw[g1,g2,AU,AU,AC j1,AC j2]
   exact ih A.in1 _ _ p p' w w' (by rw[in1_units];lia) (AT.mp pas _ (BZ j1)) (AT.mp pbs _ (BZ j2)) q1 q1' q2 q2'
  have flat0:∀d:D,D.pureN (k+1) d=true→(∀ds,d≠.tup ds)→(∀ds,d≠.lst ds)→D.pureN 0 d=true:=fun d h h1 h2=>by
   cases d with
   | tup ds=>exact absurd rfl (h1 ds)
   | lst ds=>exact absurd rfl (h2 ds)
   | loc n=>simp[D.pureN]at h
   | _=>rfl
  cases a with
  | loc n=>simp[D.pureN]at pa
  | tup as =>
   have pas:as.all (D.pureN k)=true:=by simpa[D.pureN]using pa
   obtain⟨p,xs,rfl,hq,hds⟩:=cj ha
   cases(show u=Value.ref p from ru)
   obtain⟨its,hv,ht,hz⟩:=I.tuple hq
   have ht':s.heap.IsTuple p its.toArray:=ht
   cases b with
   | loc n=>simp[D.pureN]at pb
   | tup bs =>
    have pbs:bs.all (D.pureN k)=true:=by simpa[D.pureN]using pb
    obtain⟨p',xs',rfl,hq',hds'⟩:=cj hb
    cases(show v=Value.ref p' from rv)
    obtain⟨its',hv',ht2,hz'⟩:=I.tuple hq'
    ·skip
     have q:=RcNeAt.tuples (A:=A) ht' (show s.heap.IsTuple p' its'.toArray from ht2) hu0 (each as bs xs xs' its its' pas pbs hds hds' hv hv')
     have l1:as.length=its.length:=by rw[←hds.length,hv.length]
     have l2:bs.length=its'.length:=by rw[←hds'.length,hv'.length]
     have e:((List.range (min its.toArray.size its'.toArray.size)).all (fun j=>deq (as.getD j .non) (bs.getD j .non))&&its.toArray.size==its'.toArray.size)=deq (.tup as) (.tup bs):=by
      rw[deq]
      simp only[AE,←l1,←l2]
      by_cases hl:as.length=bs.length
      ·rw[cb as bs hl,←hl];simp
      ·rw[eo as bs hl];simp[hl]
     rw[e]at q
     exact q
   | lst bs =>
    obtain⟨p',xs',rfl,hq',hds'⟩:∃a xs,y=.ref a∧LsL X.K H a xs∧cy X.K H bs xs:=by simpa[IsW]using hb
    cases(show v=Value.ref p' from rv)
    obtain⟨z,its',n',hv',_,hg⟩:=I.ls hq'
    exact RcNeAt.tuple_list ht' ⟨_,hg,rfl,n',rfl⟩ hu0
   | non=>cases(show y=.non by simpa[IsW]using hb);cases(show v=Value.none from rv);exact RcNeAt.tuple_none ht' hu0
   | bl c=>cases(show y=.bl c by simpa[IsW]using hb);cases(show v=Value.bool c from rv);exact RcNeAt.tuple_bool _ ht' hu0
   | int c=>cases(show y=.int c by simpa[IsW]using hb);obtain⟨t,rfl⟩:=rv;exact RcNeAt.tuple_int _ _ ht' hu0
   | str c=>cases(show y=.str c by simpa[IsW]using hb);obtain⟨t,rfl⟩:=rv;exact RcNeAt.tuple_str _ _ ht' hu0
  | lst as =>
   have pas:as.all (D.pureN k)=true:=by simpa[D.pureN]using pa
   obtain⟨p,xs,rfl,hq,hds⟩:∃a xs,x=.ref a∧LsL X.K H a xs∧cy X.K H as xs:=by simpa[IsW]using ha
   cases(show u=Value.ref p from ru)
   obtain⟨z,its,n,hv,_,hg⟩:=I.ls hq
   have hl':s.heap.IsList p its.toArray:=⟨_,hg,rfl,n,rfl⟩
   cases b with
   | loc n=>simp[D.pureN]at pb
   | lst bs =>
    have pbs:bs.all (D.pureN k)=true:=by simpa[D.pureN]using pb
    obtain⟨p',xs',rfl,hq',hds'⟩:∃a xs,y=.ref a∧LsL X.K H a xs∧cy X.K H bs xs:=by simpa[IsW]using hb
    cases(show v=Value.ref p' from rv)
    obtain⟨z',its',n',hv',_,hg'⟩:=I.ls hq'
    have hl2:s.heap.IsList p' its'.toArray:=⟨_,hg',rfl,n',rfl⟩
    ·skip
     have l1:as.length=its.length:=by rw[←hds.length,hv.length]
     have l2:bs.length=its'.length:=by rw[←hds'.length,hv'.length]
     by_cases hl:as.length=bs.length
     ·have q:=RcNeAt.lists (A:=A) hl' hl2 (by simp only[AE];lia) hu0 (each as bs xs xs' its its' pas pbs hds hds' hv hv')
      have e:(List.range its.toArray.size).all (fun j=>deq (as.getD j .non) (bs.getD j .non))=deq (.lst as) (.lst bs):=by
       rw[deq,cb as bs hl]
       simp only[AE,←l1]
      rw[e]at q
      exact q
     ·rw[deq,eo as bs hl]
      exact RcNeAt.lists_lengths hl' hl2 (by simp only[AE];simp;lia) hu0
   | tup bs =>
    obtain⟨p',xs',rfl,hq',hds'⟩:=cj hb
    cases(show v=Value.ref p' from rv)
    obtain⟨its',hv',ht2,hz'⟩:=I.tuple hq'
    exact RcNeAt.list_tuple hl' (show s.heap.IsTuple p' its'.toArray from ht2) hu0
   | non=>cases(show y=.non by simpa[IsW]using hb);cases(show v=Value.none from rv);exact RcNeAt.list_none hl' hu0
   | bl c=>cases(show y=.bl c by simpa[IsW]using hb);cases(show v=Value.bool c from rv);exact RcNeAt.list_bool _ hl' hu0
   | int c=>cases(show y=.int c by simpa[IsW]using hb);obtain⟨t,rfl⟩:=rv;exact RcNeAt.list_int _ _ hl' hu0
   | str c=>cases(show y=.str c by simpa[IsW]using hb);obtain⟨t,rfl⟩:=rv;exact RcNeAt.list_str _ _ hl' hu0
  | _ =>
   cases b with
   | loc n=>simp[D.pureN]at pb
   | tup bs =>
    obtain⟨p',xs',rfl,hq',hds'⟩:=cj hb
    cases(show v=Value.ref p' from rv)
    obtain⟨its',hv',ht2,hz'⟩:=I.tuple hq'
    have ht':s.heap.IsTuple p' its'.toArray:=ht2
    first
    | (cases(show x=.non by simpa[IsW]using ha);cases(show u=Value.none from ru);exact RcNeAt.none_tuple ht' hu0)
    | (cases(show x=.bl _ by simpa[IsW]using ha);cases(show u=Value.bool _ from ru);exact RcNeAt.bool_tuple _ ht' hu0)
    | (cases(show x=.int _ by simpa[IsW]using ha);obtain⟨t,rfl⟩:=ru;exact RcNeAt.int_tuple _ _ ht' hu0)
    | (cases(show x=.str _ by simpa[IsW]using ha);obtain⟨t,rfl⟩:=ru;exact RcNeAt.str_tuple _ _ ht' hu0)
   | lst bs =>
    obtain⟨p',xs',rfl,hq',hds'⟩:∃a xs,y=.ref a∧LsL X.K H a xs∧cy X.K H bs xs:=by simpa[IsW]using hb
    cases(show v=Value.ref p' from rv)
    obtain⟨z',its',n',hv',_,hg'⟩:=I.ls hq'
    have hl':s.heap.IsList p' its'.toArray:=⟨_,hg',rfl,n',rfl⟩
    first
    | (cases(show x=.non by simpa[IsW]using ha);cases(show u=Value.none from ru);exact RcNeAt.none_list hl' hu0)
    | (cases(show x=.bl _ by simpa[IsW]using ha);cases(show u=Value.bool _ from ru);exact RcNeAt.bool_list _ hl' hu0)
    | (cases(show x=.int _ by simpa[IsW]using ha);obtain⟨t,rfl⟩:=ru;exact RcNeAt.int_list _ _ hl' hu0)
    | (cases(show x=.str _ by simpa[IsW]using ha);obtain⟨t,rfl⟩:=ru;exact RcNeAt.str_list _ _ hl' hu0)
   | _=>exact jg A _ _ x y u v rfl rfl ha hb ru rv
theorem Fv (hu:X.A.units+8<cLine):OpR X (compareOp .NotEq) (rOp X.K (cpD .ne)):=by
 intro pins s σ H x y v u Q I rx ry ⟨ι,a,b,μ,hS,ha,hb,h⟩
 unfold cpD at h
 simp only at h
 split at h
 ·rename_i hp
  exact rz I 8 X.A a b x y v u hu hp.1 hp.2 (IsW.ofD (IsD.pur hp.1 ha)) (IsW.ofD (IsD.pur hp.2 hb)) rx ry _ _ _ _ ⟨.bl (!deq a b),H,I,rfl,h.ok hS (by simp[IsD])⟩
 ·exact h.elim
end
end Lp
namespace LT
open PySem PySem.Spec PyProof.Rows HT
open PySem.SeqAt
open PySem.AutoSeq1 (wpAny_loadPart')
open PySem.MeetsSeq PySem.MeetsSeq2 PySem.MeetsSeq3
theorem Nq (A:Around) (s:Shared) (a:Int) (t:Tok) (c:Int) (u:Tok) (prog:Program) (w:World) (E:Value→Shared→Prop) (Q:Value→Shared→Prop) (h:Q (.bool (decide (a≤c))) s) :
  wpAny (model prog w) A (richCompare .LtE (.int a t) (.int c u)) Q E s :=
 (PyProof.Rows.le_int h:wpAny (model prog w) A (compareOp .LtE (.int a t) (.int c u)) Q E s)
theorem z9 (l b:Addr) (items items2:Array Value) (n n2:Nat) (dd dd2:Option Addr) (sl sl2:Array (Option Value)) (ns ms:List Int) (ii:IntsAre items.toList ns) (jj:IntsAre items2.toList ms) :
  Meets (Builtin.«tuple.__le__» ⟨[.ref l,.ref b],[]⟩) (fun _ R s=>s.heap.get? l=some {cls:=.type "tuple",dict:=dd,data:=.seq items n,slots:=sl}∧s.heap.get? b=some {cls:=.type "tuple",dict:=dd2,data:=.seq items2 n2,slots:=sl2}∧R (.ok (.ret (.bool (!lexLt ms ns)))) s) :=
 .of_wp fun prog w A R s h=>by
  obtain⟨hh0,g,d,tk0,os0⟩:=s;obtain⟨ql,hb,h⟩:=h
  have sub0:=DX
  have n1:ns.length=items.size:=by rw[←ii.length,BM]
  have n2e:ms.length=items2.size:=by rw[←jj.length,BM]
  wp_walk using DI ql,DI hb,FY _ (fun rest b s'=>b.1=none∧s'=⟨hh0,g,d,tk0,os0⟩∧∃(us1 us2:List Value) (ms1 ms2:List Int),rest=us1.zip us2 ∧
   IntsAre us1 ms1∧IntsAre us2 ms2∧ms1.length+items2.size=ms2.length+items.size∧R (.ok (.ret (.bool (!lexLt ms2 ms1)))) ⟨hh0,g,d,tk0,os0⟩) _
  case turn =>
   rintro⟨y,x⟩ rest b s' ⟨p0,rfl,us1,us2,ms1,ms2,pz,pv,pw,pl,fin0⟩
   cases pv with
   | nil=>rw[FP]at pz;cases pz
   | cons a t pv1 =>
    cases pw with
    | nil=>rw[FI]at pz;cases pz
    | cons c u pw1 =>
     rw[CI]at pz
     injection pz with pyx pr
     injection pyx with py px
     subst py px
     rw[cw]at fin0
     simp only[BJ]at pl
     obtain⟨same,eq0,eqi⟩:=kz A.in1 ⟨hh0,g,d,tk0,os0⟩ a t c u
     refine AA (eq0 prog w _ _ ?_)
     cases same with
     | true =>
      rw[if_pos (eqi.mp rfl).symm]at fin0
      wp_walk
      exact⟨rfl,rfl,_,_,_,_,pr,pv1,pw1,by lia,fin0⟩
     | false =>
      have hne:¬c=a:=fun q=>absurd (eqi.mpr q.symm) AW
      rw[if_neg hne]at fin0
      have ed:(!decide (c<a))=decide (a≤c):=by
       by_cases hc:c<a
       ·rw[decide_eq_true hc,decide_eq_false (by lia)];rfl
       ·rw[decide_eq_false hc,decide_eq_true (by lia)];rfl
      rw[ed]at fin0
      have low:=Nq A.in1 ⟨hh0,g,d,tk0,os0⟩ a t c u prog w
      wp_walk using low
      exact⟨_,rfl,by simpa using fin0⟩
  case fin =>
   rintro⟨c1,c2⟩ s' ⟨p0,rfl,us1,us2,ms1,ms2,pz,pv,pw,pl,fin0⟩
   simp only at p0
   subst p0
   have hv:(!lexLt ms2 ms1)=decide (items.size≤items2.size):=by
    cases pv with
    | nil =>
     cases pw with
     | nil =>
      simp only[CD]at pl
      rw[eg,decide_eq_true (by lia)];rfl
     | cons c u hw =>
      simp only[CD,BJ]at pl
      rw[dr,decide_eq_true (by lia)];rfl
    | cons a t hv =>
     cases pw with
     | nil =>
      simp only[CD,BJ]at pl
      rw[dq,decide_eq_false (by lia)];rfl
     | cons c u hw =>
      rw[CI]at pz
      cases pz
   rw[hv]at fin0
   wp_walk
   exact⟨_,rfl,by simpa[Builtin.Tuple.tupleCompareSizes]using fin0⟩
  case h =>
   exact⟨rfl,rfl,items.toList,items2.toList,ns,ms,rfl,ii,jj,by lia,h⟩
theorem Fw {prog:Program} {w:World} {A:Around} {E:Value→Shared→Prop} {s:Shared} {l b:Addr} {items items2:Array Value} {ns ms:List Int} {Q:Value→Shared→Prop} (hl:IsTup s.heap l items) (hb:IsTup s.heap b items2) (hi:IntsAre items.toList ns) (hj:IntsAre items2.toList ms)
  (hu:A.units<cLine) (h:Q (.bool (!lexLt ms ns)) s):wpAny (model prog w) A (compareOp .LtE (.ref l) (.ref b)) Q E s:=by
 obtain⟨⟨_,dd,_,sl⟩,ho,rfl,n,rfl⟩:=id hl
 obtain⟨⟨_,dd2,_,sl2⟩,ho2,rfl,n2,rfl⟩:=id hb
 exact EJ (op:=.LtE) ⟨_,ho,rfl⟩ ⟨_,ho2,rfl⟩ PySem.F.slot_tuple_le PySem.F.entry_tuple_le (PySem.F.args_tuple_le_2 _ _) (z9 l b items items2 n n2 dd dd2 sl sl2 ns ms hi hj)
  ⟨ho,ho2,show Value.bool (!lexLt ms ns)≠Value.notImplemented∧Q (.bool (!lexLt ms ns)) s from⟨(fun x=>nomatch x),h⟩⟩ hu
theorem Nr (A:Around) (s:Shared) (a:Int) (t:Tok) (c:Int) (u:Tok) (prog:Program) (w:World) (E:Value→Shared→Prop) (Q:Value→Shared→Prop) (h:Q (.bool (decide (c≤a))) s) :
  wpAny (model prog w) A (richCompare .GtE (.int a t) (.int c u)) Q E s :=
 (PyProof.Rows.ge_int h:wpAny (model prog w) A (compareOp .GtE (.int a t) (.int c u)) Q E s)
theorem Aa (l b:Addr) (items items2:Array Value) (n n2:Nat) (dd dd2:Option Addr) (sl sl2:Array (Option Value)) (ns ms:List Int) (ii:IntsAre items.toList ns) (jj:IntsAre items2.toList ms) :
  Meets (Builtin.«tuple.__ge__» ⟨[.ref l,.ref b],[]⟩) (fun _ R s=>s.heap.get? l=some {cls:=.type "tuple",dict:=dd,data:=.seq items n,slots:=sl}∧s.heap.get? b=some {cls:=.type "tuple",dict:=dd2,data:=.seq items2 n2,slots:=sl2}∧R (.ok (.ret (.bool (!lexLt ns ms)))) s) :=
 .of_wp fun prog w A R s h=>by
  obtain⟨hh0,g,d,tk0,os0⟩:=s;obtain⟨ql,hb,h⟩:=h
  have sub0:=DX
  have n1:ns.length=items.size:=by rw[←ii.length,BM]
  have n2e:ms.length=items2.size:=by rw[←jj.length,BM]
  wp_walk using DI ql,DI hb,FY _ (fun rest b s'=>b.1=none∧s'=⟨hh0,g,d,tk0,os0⟩∧∃(us1 us2:List Value) (ms1 ms2:List Int),rest=us1.zip us2 ∧
   IntsAre us1 ms1∧IntsAre us2 ms2∧ms1.length+items2.size=ms2.length+items.size∧R (.ok (.ret (.bool (!lexLt ms1 ms2)))) ⟨hh0,g,d,tk0,os0⟩) _
  case turn =>
   rintro⟨y,x⟩ rest b s' ⟨p0,rfl,us1,us2,ms1,ms2,pz,pv,pw,pl,fin0⟩
   cases pv with
   | nil=>rw[FP]at pz;cases pz
   | cons a t pv1 =>
    cases pw with
    | nil=>rw[FI]at pz;cases pz
    | cons c u pw1 =>
     rw[CI]at pz
     injection pz with pyx pr
     injection pyx with py px
     subst py px
     rw[cw]at fin0
     simp only[BJ]at pl
     obtain⟨same,eq0,eqi⟩:=kz A.in1 ⟨hh0,g,d,tk0,os0⟩ a t c u
     refine AA (eq0 prog w _ _ ?_)
     cases same with
     | true =>
      rw[if_pos (eqi.mp rfl)]at fin0
      wp_walk
      exact⟨rfl,rfl,_,_,_,_,pr,pv1,pw1,by lia,fin0⟩
     | false =>
      have hne:¬a=c:=fun q=>absurd (eqi.mpr q) AW
      rw[if_neg hne]at fin0
      have ed:(!decide (a<c))=decide (c≤a):=by
       by_cases hc:a<c
       ·rw[decide_eq_true hc,decide_eq_false (by lia)];rfl
       ·rw[decide_eq_false hc,decide_eq_true (by lia)];rfl
      rw[ed]at fin0
      have low:=Nr A.in1 ⟨hh0,g,d,tk0,os0⟩ a t c u prog w
      wp_walk using low
      exact⟨_,rfl,by simpa using fin0⟩
  case fin =>
   rintro⟨c1,c2⟩ s' ⟨p0,rfl,us1,us2,ms1,ms2,pz,pv,pw,pl,fin0⟩
   simp only at p0
   subst p0
   have hv:(!lexLt ms1 ms2)=decide (items2.size≤items.size):=by
    cases pv with
    | nil =>
     cases pw with
     | nil =>
      simp only[CD]at pl
      rw[eg,decide_eq_true (by lia)];rfl
     | cons c u hw =>
      simp only[CD,BJ]at pl
      rw[dq,decide_eq_false (by lia)];rfl
    | cons a t hv =>
     cases pw with
     | nil =>
      simp only[CD,BJ]at pl
      rw[dr,decide_eq_true (by lia)];rfl
     | cons c u hw =>
      rw[CI]at pz
      cases pz
   rw[hv]at fin0
   wp_walk
   exact⟨_,rfl,by simpa[Builtin.Tuple.tupleCompareSizes]using fin0⟩
  case h =>
   exact⟨rfl,rfl,items.toList,items2.toList,ns,ms,rfl,ii,jj,by lia,h⟩
theorem Fx {prog:Program} {w:World} {A:Around} {E:Value→Shared→Prop} {s:Shared} {l b:Addr} {items items2:Array Value} {ns ms:List Int} {Q:Value→Shared→Prop} (hl:IsTup s.heap l items) (hb:IsTup s.heap b items2) (hi:IntsAre items.toList ns) (hj:IntsAre items2.toList ms)
  (hu:A.units<cLine) (h:Q (.bool (!lexLt ns ms)) s):wpAny (model prog w) A (compareOp .GtE (.ref l) (.ref b)) Q E s:=by
 obtain⟨⟨_,dd,_,sl⟩,ho,rfl,n,rfl⟩:=id hl
 obtain⟨⟨_,dd2,_,sl2⟩,ho2,rfl,n2,rfl⟩:=id hb
 exact EJ (op:=.GtE) ⟨_,ho,rfl⟩ ⟨_,ho2,rfl⟩ PySem.F.slot_tuple_ge PySem.F.entry_tuple_ge (PySem.F.args_tuple_ge_2 _ _) (Aa l b items items2 n n2 dd dd2 sl sl2 ns ms hi hj)
  ⟨ho,ho2,show Value.bool (!lexLt ns ms)≠Value.notImplemented∧Q (.bool (!lexLt ns ms)) s from⟨(fun x=>nomatch x),h⟩⟩ hu
end LT
namespace L2
open PySem PySem.Spec PyProof.Rows
variable {X : Cx}
theorem Fy (hu:X.A.units<cLine) {pins s σ H x y v u Q} (I:Inv X pins σ H s) (rx:RelV x v) (ry:RelV y u) (h:∃a b ns ms,x=.ref a∧y=.ref b∧SqT X.K H a (ns.map V.int)∧SqT X.K H b (ms.map V.int)∧Q (.bl (!HT.lexLt ms ns)) H) :
  wpAny (model X.prog X.w) X.A (compareOp .LtE v u) (EP X pins σ Q) X.xe s:=by
 obtain⟨c,d,ns,ms,rfl,rfl,hc,hd,q⟩:=h
 cases rx
 cases ry
 obtain⟨us,r1,p1,_⟩:=I.tuple hc
 obtain⟨us2,r2,p2,_⟩:=I.tuple hd
 exact LT.Fw p1 p2 (intsAre_of r1) (intsAre_of r2) hu ⟨.bl (!HT.lexLt ms ns),H,I,rfl,q⟩
theorem Fz (hu:X.A.units<cLine) {pins s σ H x y v u Q} (I:Inv X pins σ H s) (rx:RelV x v) (ry:RelV y u) (h:∃a b ns ms,x=.ref a∧y=.ref b∧SqT X.K H a (ns.map V.int)∧SqT X.K H b (ms.map V.int)∧Q (.bl (!HT.lexLt ns ms)) H) :
  wpAny (model X.prog X.w) X.A (compareOp .GtE v u) (EP X pins σ Q) X.xe s:=by
 obtain⟨c,d,ns,ms,rfl,rfl,hc,hd,q⟩:=h
 cases rx
 cases ry
 obtain⟨us,r1,p1,_⟩:=I.tuple hc
 obtain⟨us2,r2,p2,_⟩:=I.tuple hd
 exact LT.Fx p1 p2 (intsAre_of r1) (intsAre_of r2) hu ⟨.bl (!HT.lexLt ns ms),H,I,rfl,q⟩
end L2
namespace Lp
open PySem PySem.Spec PyProof.Rows L2
open PySem.SeqAt (EqAt RcAt)
noncomputable def opOf:Cp→CmpOp
 | .eq=>.Eq
 | .ne=>.NotEq
 | .eqM=>.Eq
 | .neM=>.NotEq
 | .lt=>.Lt
 | .le=>.LtE
 | .gt=>.Gt
 | .ge=>.GtE
 | .is=>.Is
 | .isnot=>.IsNot
 | .in_=>.In
 | .notin=>.NotIn
section
variable {X : Cx} {φ : Phi} {pins : List (Addr × Obj)} {σ : St} {H : Hp} {s : Shared}
theorem ints_of {K:PySem.W.Frag} {ι:List Addr}:∀{ds:List D} {xs:List V} {ns:List Int},ae K ι H ds xs→gf ds=some ns→xs=ns.map V.int
 | [],xs,ns,h,e=>by
  simp only[gf,BC]at e
  subst e
  simpa[ae]using h
 | d::ds,xs,ns,h,e=>by
  simp only[ae]at h
  obtain⟨v,r,rfl,q,t⟩:=h
  cases d with
  | int i =>
   simp only[gf,DG]at e
   obtain⟨ms,e1,rfl⟩:=e
   cases bw q
   rw[ints_of t e1]
   rfl
  | _=>simp[gf]at e
theorem r0 {K:PySem.W.Frag} {ι:List Addr}:∀{ds:List D} {xs:List V} {ns:List Bool},ae K ι H ds xs→gv ds=some ns→xs=ns.map V.bl
 | [],xs,ns,h,e=>by
  simp only[gv,BC]at e
  subst e
  simpa[ae]using h
 | d::ds,xs,ns,h,e=>by
  simp only[ae]at h
  obtain⟨v,r,rfl,q,t⟩:=h
  cases d with
  | bl i =>
   simp only[gv,DG]at e
   obtain⟨ms,e1,rfl⟩:=e
   cases n4 q
   rw[r0 t e1]
   rfl
  | _=>simp[gv]at e
theorem qg {K:PySem.W.Frag} {ι:List Addr} {d:D} {v:V} (h:IsD K ι H d v) (hf:flat d=true):j7 v=true:=by
 cases d with
 | tup _=>simp[flat]at hf
 | lst _=>simp[flat]at hf
 | loc _=>simp[flat]at hf
 | _=>have e:=h;simp only[IsD]at e;subst e;rfl
theorem lj {K:PySem.W.Frag} {ι:List Addr}:∀{ds:List D} {xs:List V},ae K ι H ds xs→ds.all flat=true→xs.all j7=true
 | [],xs,h,_=>by
  have e:xs=[]:=by simpa[ae]using h
  subst e
  rfl
 | d::ds,xs,h,hf=>by
  simp only[ae]at h
  obtain⟨v,r,rfl,q,t⟩:=h
  simp only[BO,AX]at hf ⊢
  exact⟨qg q hf.1,lj t hf.2⟩
theorem F0 {K:PySem.W.Frag} {ι:List Addr} {d e:D} {v w:V} (hd:IsD K ι H d v) (he:IsD K ι H e w) (fd:flat d=true) (fe:flat e=true):eqV v w=deq d e:=by
 have b2:∀(a b:Int),decide (a=b)=(a==b):=fun a b=>(BP a b).symm
 have b3:∀(a b:Str),decide (a=b)=(a==b):=fun a b=>(BP a b).symm
 cases d with
 | tup _=>simp[flat]at fd
 | lst _=>simp[flat]at fd
 | loc _=>simp[flat]at fd
 | _ =>
  cases e with
  | tup _=>simp[flat]at fe
  | lst _=>simp[flat]at fe
  | loc _=>simp[flat]at fe
  | _ =>
   simp only[IsD]at hd he
   subst hd he
   simp only[eqV,deq,b2,b3]
theorem wm {K:PySem.W.Frag} {ι:List Addr} {e:D} {w:V} (he:IsD K ι H e w) (fe:flat e=true):∀{ds:List D} {xs:List V},ae K ι H ds xs→ds.all flat=true→inV w xs=ds.any fun y=>deq y e
 | [],xs,h,_=>by
  have e:xs=[]:=by simpa[ae]using h
  subst e
  rfl
 | d::ds,xs,h,hf=>by
  simp only[ae]at h
  obtain⟨v,r,rfl,q,t⟩:=h
  simp only[BO,AX]at hf
  have ih:=wm he fe t hf.2
  unfold inV at ih ⊢
  rw[CQ,CQ,F0 q he hf.1 fe,ih]
theorem is_bool {u:Bool} {v:Bool} {Q:VK} (I:Inv X pins σ H s) (q:Q (.bl (u==v)) H):wpAny (model X.prog X.w) X.A (compareOp .Is (.bool u) (.bool v)) (EP X pins σ Q) X.xe s:=by
 cases u<;>cases v<;>exact AD ⟨.bl _,H,I,rfl,q⟩
theorem isnot_bool {u:Bool} {v:Bool} {Q:VK} (I:Inv X pins σ H s) (q:Q (.bl (!(u==v))) H):wpAny (model X.prog X.w) X.A (compareOp .IsNot (.bool u) (.bool v)) (EP X pins σ Q) X.xe s:=by
 cases u<;>cases v<;>exact AD ⟨.bl _,H,I,rfl,q⟩
theorem og {v:Bool} {Q:VK} (I:Inv X pins σ H s) (q:Q (.bl false) H):wpAny (model X.prog X.w) X.A (compareOp .Is .none (.bool v)) (EP X pins σ Q) X.xe s:=by
 cases v<;>exact AD ⟨.bl _,H,I,rfl,q⟩
theorem jh {v:Bool} {Q:VK} (I:Inv X pins σ H s) (q:Q (.bl true) H):wpAny (model X.prog X.w) X.A (compareOp .IsNot .none (.bool v)) (EP X pins σ Q) X.xe s:=by
 cases v<;>exact AD ⟨.bl _,H,I,rfl,q⟩
noncomputable def kD:Key→D
 | .inl i=>.int i
 | .inr x=>.str x
theorem wo {K:PySem.W.Frag} {ι:List Addr} {d:D} {x:V} (hk:zv d=true) (h:IsD K ι H d x):∃k,d=kD k∧x=kV k:=by
 cases d with
 | int i=>exact⟨.inl i,rfl,by simpa[IsD,kV]using h⟩
 | str i=>exact⟨.inr i,rfl,by simpa[IsD,kV]using h⟩
 | _=>simp[zv]at hk
theorem qh {K:PySem.W.Frag} {ι:List Addr} {d:D} {k:Key} (h:IsD K ι H d (kV k)):d=kD k:=by
 cases k with
 | inl i=>cases d<;>simp_all[IsD,kV,kD]
 | inr i=>cases d<;>simp_all[IsD,kV,kD]
theorem oh (a b:Key):deq (kD a) (kD b)=decide (a=b):=by
 cases a<;>cases b<;>simp[kD,deq]
noncomputable def OR (K:PySem.W.Frag) (H:Hp):Option D→Option V→Prop
 | some d,some v=>IsD K [] H d v
 | none,none=>True
 | _,_=>False
theorem OR.isSome {K:PySem.W.Frag} {o:Option D} {p:Option V} (h:OR K H o p):p.isSome=o.isSome:=by
 cases o<;>cases p<;>first | rfl | exact h.elim
theorem ll {K:PySem.W.Frag} {k:Key}:∀{kvs:List (D×D)} {xs:List (Key×V)},zg K H kvs xs→OR K H (qd (kD k) kvs) (tw xs k)
 | _,_,.nil=>True.intro
 | p::kvs,q::xs,.cons h t=>by
  obtain⟨d,e⟩:=p
  have hk:=qh h.1
  dsimp only at hk
  subst hk
  have ih:=ll (k:=k) (kvs:=kvs) (xs:=xs) t
  by_cases z:q.1=k
  ·rw[k9 z,qd,oh,if_pos (by simpa using z)]
   exact h.2
  ·rw[lb z,qd,oh,if_neg (by simpa using z)]
   exact ih
theorem wq {K:PySem.W.Frag} {k:Key}:∀{kvs:List (D×D)} {xs:List (Key×V)},zg K H kvs xs→(kvs.any fun p=>deq p.1 (kD k))=xs.any fun kv=>decide (kv.1=k)
 | _,_,.nil=>rfl
 | p::kvs,q::xs,.cons h t=>by
  obtain⟨d,e⟩:=p
  have hk:=qh h.1
  dsimp only at hk
  subst hk
  rw[CQ,CQ,wq t,oh]
theorem r6 {K:PySem.W.Frag} {k:Key} {d:D} {v:V} (hv:IsD K [] H d v):∀{kvs:List (D×D)} {xs:List (Key×V)},zg K H kvs xs →
  zg K H (kvs.map fun p=>if deq p.1 (kD k)=true then(p.1,d)else p) (xs.map fun kv=>if kv.1=k then(kv.1,v)else kv)
 | _,_,.nil=>.nil
 | p::kvs,q::xs,.cons h t=>by
  obtain⟨e,w⟩:=p
  have hk:=qh h.1
  dsimp only at hk
  subst hk
  rw[AZ,AZ]
  refine .cons ?_ (r6 hv t)
  by_cases z:q.1=k
  ·rw[if_pos z,oh,if_pos (by simpa using z)]
   exact⟨h.1,hv⟩
  ·rw[if_neg z,oh,if_neg (by simpa using z)]
   exact h
theorem ji {α β:Type} {F:α→β→Prop}:∀{xs:List α} {ys:List β} {x:α} {y:β},Paired F xs ys→F x y→Paired F (xs++[x]) (ys++[y])
 | _,_,_,_,.nil,h=>.cons h .nil
 | _,_,_,_,.cons a t,h=>.cons a (ji t h)
theorem Ab {K:PySem.W.Frag} {k:Key} {d:D} {v:V} (hv:IsD K [] H d v) {kvs:List (D×D)} {xs:List (Key×V)} (h:zg K H kvs xs):zg K H (dput (kD k) d kvs) (putK xs k v):=by
 unfold dput putK
 rw[wq h]
 split
 ·exact r6 hv h
 ·refine ji h ⟨?_,hv⟩
  cases k<;>simp[kD,kV,IsD]
theorem wt {K:PySem.W.Frag} {ι:List Addr} {μ:Sto} {o k:D} {x y:V} {kvs:List (D×D)} (hS:Sim K ι H μ) (ho:IsD K ι H o x) (hk:IsD K ι H k y) (h:dictAt μ o k=some kvs) :
  ∃p q xs,x=.ref p∧y=kV q∧k=kD q∧H p=some (.dK xs)∧zg K H kvs xs:=by
 cases o with
 | loc n =>
  simp only[dictAt]at h
  split at h
  ·rename_i kvs' em
   split at h
   ·rename_i hkey
    cases h
    obtain⟨p,rfl,hp⟩:∃p,x=.ref p∧ι[n]? = some p:=by simpa[IsD]using ho
    obtain⟨a',q',ob⟩:=hS.at em
    rw[hp]at q';cases q'
    obtain⟨xs,e1,e2⟩:=ob
    obtain⟨q,rfl,rfl⟩:=wo hkey hk
    exact⟨p,q,xs,rfl,rfl,rfl,e1,e2⟩
   ·cases h
  ·cases h
 | _=>simp[dictAt]at h
theorem wu (cp:Cp) (hu:X.A.units+8<cLine):OpR X (compareOp (opOf cp)) (rOp X.K (cpD cp)):=by
 have hu0:X.A.units<cLine:=by lia
 cases cp with
 | eq=>exact Fu hu
 | ne=>exact Fv hu
 | eqM =>
  intro pins s σ H x y v u Q I rx ry ⟨ι,a,b,μ,hS,ha,hb,h⟩
  simp only[cpD]at h
  cases e1:aj μ 8 a with
  | none=>simp only[e1]at h;exact h.elim
  | some a1 =>
   cases e2:aj μ 8 b with
   | none=>simp only[e1,e2]at h;exact h.elim
   | some b1 =>
    simp only[e1,e2]at h
    exact Bf I 8 X.A a1 b1 x y v u hu (dz 8 _ _ e1) (dz 8 _ _ e2) (n8 hS 8 _ _ _ e1 ha) (n8 hS 8 _ _ _ e2 hb) rx ry _ _ _ _ ⟨.bl (deq a1 b1),H,I,rfl,h.ok hS (by simp[IsD])⟩
 | neM =>
  intro pins s σ H x y v u Q I rx ry ⟨ι,a,b,μ,hS,ha,hb,h⟩
  simp only[cpD]at h
  cases e1:aj μ 8 a with
  | none=>simp only[e1]at h;exact h.elim
  | some a1 =>
   cases e2:aj μ 8 b with
   | none=>simp only[e1,e2]at h;exact h.elim
   | some b1 =>
    simp only[e1,e2]at h
    exact rz I 8 X.A a1 b1 x y v u hu (dz 8 _ _ e1) (dz 8 _ _ e2) (n8 hS 8 _ _ _ e1 ha) (n8 hS 8 _ _ _ e2 hb) rx ry _ _ _ _ ⟨.bl (!deq a1 b1),H,I,rfl,h.ok hS (by simp[IsD])⟩
 | lt =>
  intro pins s σ H x y v u Q I rx ry ⟨ι,a,b,μ,hS,ha,hb,h⟩
  simp only[cpD]at h
  split at h
  ·cases bw ha;cases bw hb
   exact Hv pins s σ H _ _ v u Q I rx ry ⟨_,_,rfl,rfl,h.ok hS (by simp[IsD])⟩
  ·obtain⟨p,xs,rfl,hq,hds⟩:=cm ha
   obtain⟨p',xs',rfl,hq',hds'⟩:=cm hb
   split at h
   ·rename_i ns ms e1 e2
    have:=ints_of hds e1
    subst this
    have:=ints_of hds' e2
    subst this
    refine Ey hu0 pins s σ H _ _ v u Q I rx ry ⟨p,p',ns,ms,rfl,rfl,hq,hq',?_⟩
    have el:∀(a b:List Int),HT.lexLt a b=Lp.lexLt a b:=by
     intro a
     induction a with
     | nil=>intro b;cases b<;>rfl
     | cons x r ih=>intro b;cases b with
      | nil=>rfl
      | cons y q=>rw[HT.cw,Lp.lexLt,ih]
    rw[el]
    exact h.ok hS (by simp[IsD])
   ·exact h.elim
  ·exact h.elim
 | le =>
  intro pins s σ H x y v u Q I rx ry ⟨ι,a,b,μ,hS,ha,hb,h⟩
  simp only[cpD]at h
  split at h
  ·cases bw ha;cases bw hb
   exact Hw pins s σ H _ _ v u Q I rx ry ⟨_,_,rfl,rfl,h.ok hS (by simp[IsD])⟩
  ·obtain⟨p,xs,rfl,hq,hds⟩:=cm ha
   obtain⟨p',xs',rfl,hq',hds'⟩:=cm hb
   split at h
   ·rename_i ns ms e1 e2
    have:=ints_of hds e1
    subst this
    have:=ints_of hds' e2
    subst this
    refine Fy hu0 I rx ry ⟨p,p',ns,ms,rfl,rfl,hq,hq',?_⟩
    have el:∀(a b:List Int),HT.lexLt a b=Lp.lexLt a b:=by
     intro a
     induction a with
     | nil=>intro b;cases b<;>rfl
     | cons x r ih=>intro b;cases b with
      | nil=>rfl
      | cons y q=>rw[HT.cw,Lp.lexLt,ih]
    rw[el]
    exact h.ok hS (by simp[IsD])
   ·exact h.elim
  ·exact h.elim
 | gt =>
  refine OpR.imp Hx fun x y H Q ⟨ι,a,b,μ,hS,ha,hb,h⟩=>?_
  simp only[cpD]at h
  split at h
  ·cases bw ha;cases bw hb
   exact⟨_,_,rfl,rfl,h.ok hS (by simp[IsD])⟩
  ·exact h.elim
 | ge =>
  intro pins s σ H x y v u Q I rx ry ⟨ι,a,b,μ,hS,ha,hb,h⟩
  simp only[cpD]at h
  split at h
  ·cases bw ha;cases bw hb
   exact Hy pins s σ H _ _ v u Q I rx ry ⟨_,_,rfl,rfl,h.ok hS (by simp[IsD])⟩
  ·obtain⟨p,xs,rfl,hq,hds⟩:=cm ha
   obtain⟨p',xs',rfl,hq',hds'⟩:=cm hb
   split at h
   ·rename_i ns ms e1 e2
    have:=ints_of hds e1
    subst this
    have:=ints_of hds' e2
    subst this
    refine Fz hu0 I rx ry ⟨p,p',ns,ms,rfl,rfl,hq,hq',?_⟩
    have el:∀(a b:List Int),HT.lexLt a b=Lp.lexLt a b:=by
     intro a
     induction a with
     | nil=>intro b;cases b<;>rfl
     | cons x r ih=>intro b;cases b with
      | nil=>rfl
      | cons y q=>rw[HT.cw,Lp.lexLt,ih]
    rw[el]
    exact h.ok hS (by simp[IsD])
   ·exact h.elim
  ·exact h.elim
 | is =>
  intro pins s σ H x y v u Q I rx ry ⟨ι,a,b,μ,hS,ha,hb,h⟩
  simp only[cpD]at h
  split at h
  ·refine Eo pins s σ H x y v u Q I rx ry ⟨by simpa[IsD]using hb,?_⟩
   cases a with
   | tup ds=>obtain⟨p,xs,rfl,_⟩:=cm ha;exact h.ok hS (by simp[IsD])
   | lst ds =>
         obtain⟨p,xs,rfl,_⟩:∃p xs,x=V.ref p∧FzL X.K H p xs∧ae X.K ι H ds xs:=by simpa[IsD]using ha
         exact h.ok hS (by simp[IsD])
   | loc n =>
        obtain⟨p,rfl,_⟩:∃p,x=V.ref p∧ι[n]? = some p:=by simpa[IsD]using ha
        exact h.ok hS (by simp[IsD])
   | _=>have e:=ha;simp only[IsD]at e;subst e;exact h.ok hS (by simp[IsD])
  ·cases n4 hb
   cases(show u=Value.bool _ from ry)
   split at h
   ·cases n4 ha
    cases(show v=Value.bool _ from rx)
    exact is_bool I (h.ok hS (by simp[IsD]))
   ·cases(show x=.non by simpa[IsD]using ha)
    cases(show v=Value.none from rx)
    exact og I (h.ok hS (by simp[IsD]))
   ·exact h.elim
  ·exact h.elim
 | isnot =>
  intro pins s σ H x y v u Q I rx ry ⟨ι,a,b,μ,hS,ha,hb,h⟩
  simp only[cpD]at h
  split at h
  ·refine B8 pins s σ H x y v u Q I rx ry ⟨by simpa[IsD]using hb,?_⟩
   cases a with
   | tup ds=>obtain⟨p,xs,rfl,_⟩:=cm ha;exact h.ok hS (by simp[IsD])
   | lst ds =>
         obtain⟨p,xs,rfl,_⟩:∃p xs,x=V.ref p∧FzL X.K H p xs∧ae X.K ι H ds xs:=by simpa[IsD]using ha
         exact h.ok hS (by simp[IsD])
   | loc n =>
        obtain⟨p,rfl,_⟩:∃p,x=V.ref p∧ι[n]? = some p:=by simpa[IsD]using ha
        exact h.ok hS (by simp[IsD])
   | _=>have e:=ha;simp only[IsD]at e;subst e;exact h.ok hS (by simp[IsD])
  ·cases n4 hb
   cases(show u=Value.bool _ from ry)
   split at h
   ·cases n4 ha
    cases(show v=Value.bool _ from rx)
    exact isnot_bool I (h.ok hS (by simp[IsD]))
   ·cases(show x=.non by simpa[IsD]using ha)
    cases(show v=Value.none from rx)
    exact jh I (h.ok hS (by simp[IsD]))
   ·exact h.elim
  ·exact h.elim
 | in_ =>
  intro pins s σ H x y v u Q I rx ry ⟨ι,a,b,μ,hS,ha,hb,h⟩
  simp only[cpD]at h
  split at h
  ·rename_i ds e
   obtain⟨p,xs,rfl,hq,hds⟩:=kg hS hb e
   split at h
   ·rename_i hf
    refine vq pins s σ H _ _ v u Q I rx ry ⟨p,xs,rfl,hq.imp (·.sq) id,qg ha hf.1,lj hds hf.2,?_⟩
    simp only[AQ,if_false]
    rw[wm ha hf.1 hds hf.2]
    exact h.ok hS (by simp[IsD])
   ·exact h.elim
  ·split at h
   ·rename_i kvs e
    obtain⟨p,q,xs,rfl,rfl,rfl,hp,hk⟩:=wt hS hb ha e
    cases(show u=Value.ref p from ry)
    refine Ng (by lia) I (D1.k hp) rx fun s' I'=>⟨.bl (tw xs q).isSome,H,I',rfl,?_⟩
    rw[(ll hk).isSome]
    exact h.ok hS (by simp[IsD])
   ·exact h.elim
 | notin =>
  intro pins s σ H x y v u Q I rx ry ⟨ι,a,b,μ,hS,ha,hb,h⟩
  simp only[cpD]at h
  split at h
  ·rename_i ds e
   obtain⟨p,xs,rfl,hq,hds⟩:=kg hS hb e
   split at h
   ·rename_i hf
    refine nr pins s σ H _ _ v u Q I rx ry ⟨p,xs,rfl,hq.imp (·.sq) id,qg ha hf.1,lj hds hf.2,?_⟩
    simp only[if_true]
    rw[wm ha hf.1 hds hf.2]
    exact h.ok hS (by simp[IsD])
   ·exact h.elim
  ·split at h
   ·rename_i kvs e
    obtain⟨p,q,xs,rfl,rfl,rfl,hp,hk⟩:=wt hS hb ha e
    cases(show u=Value.ref p from ry)
    refine Ci (by lia) I (D1.k hp) rx fun s' I'=>⟨.bl (!(tw xs q).isSome),H,I',rfl,?_⟩
    rw[(ll hk).isSome]
    exact h.ok hS (by simp[IsD])
   ·exact h.elim
end
end Lp
namespace Lp
open PySem PySem.Spec PyProof.Rows L2
open PySem.SeqAt (EqAt RcAt)
section
variable {X : Cx} {φ : Phi} {pins : List (Addr × Obj)} {σ : St} {H : Hp} {s : Shared}
noncomputable def PCh (X:Cx) (ops:List CmpOp) (es:List Expr) (t:V→TE):Prop :=
 ∀(pos:Pos) (pins:List (Addr×Obj)) (s:Shared) (σ:St) (H:Hp) (Q:VK) (x:V) (v:Value),Inv X pins σ H s→RelV x v→t x σ H Q →
  wpAny (model X.prog X.w) X.A (compareChain pos v ops (evalEach es X.env)) (EP X pins σ Q) X.xe s
noncomputable def PTh (X:Cx) (ops:List CmpOp) (es:List Expr) (t:V→TT):Prop :=
 ∀(pos:Pos) (pins:List (Addr×Obj)) (s:Shared) (σ:St) (H:Hp) (Q:Bool→Hp→Prop) (x:V) (v:Value),Inv X pins σ H s→RelV x v→t x σ H Q →
  wpAny (model X.prog X.w) X.A (testChain pos v ops (evalEach es X.env)) (TP X pins σ Q) X.xe s
noncomputable def tCh (K:PySem.W.Frag) (φ:Phi) (r:Cps):V→TE:=fun x σv H Q=>∃ι σ μ d,Sim K ι H μ∧g8 K ι H σ σv∧IsD K ι H d x∧c6 K (RD K) ι H (evC φ r d σ μ) Q
noncomputable def tTh (K:PySem.W.Frag) (φ:Phi) (r:Cps):V→TT:=fun x σv H Q=>∃ι σ μ d,Sim K ι H μ∧g8 K ι H σ σv∧IsD K ι H d x∧c6 K RB ι H ((evC φ r d σ μ).bind fun z μ=>K9 z μ) Q
theorem wx {op:Cp} {xe:Ex} {d:D} {σ:Sl} {μ:Sto}:evC φ (.cons op xe .nil) d σ μ=(evE φ xe σ μ).bind fun y μ=>cpD op d y μ:=by
 simp only[evC]
 cases evE φ xe σ μ with
 | ok y μ1 =>
  simp only[Res.cg]
  cases cpD op d y μ1<;>rfl
 | exc _ _ _=>rfl
 | stuck=>rfl
theorem Ac {op op':Cp} {xe xe':Ex} {r:Cps} {d:D} {σ:Sl} {μ:Sto}:evC φ (.cons op xe (.cons op' xe' r)) d σ μ=(evE φ xe σ μ).bind fun y μ=>(cpD op d y μ).bind fun z μ=>match z with
  | .bl b=>if b=true then evC φ (.cons op' xe' r) y σ μ else .ok (.bl false) μ
  | _=>.stuck:=by
 rw[evC]
 all_goals rfl
theorem C0 {op:Cp} {e:Expr} {xe:Ex} (ho:OpR X (compareOp (opOf op)) (rOp X.K (cpD op))) (he:PE X e (tE X.K φ xe)):PCh X [opOf op] [e] (tCh X.K φ (.cons op xe .nil)):=by
 intro pos pins s σv H Q x v I rx ⟨ι,σ,μ,d,hS,hL,hd,h⟩
 rw[wx]at h
 obtain⟨y,μ1,e1,h⟩:=h.bind
 refine chain_last (thn (he pins s σv H (fun w H1=>rOp X.K (cpD op) x w H1 Q) I ⟨ι,σ,μ,hS,hL,?_⟩) fun u s1 ⟨w,H1,I1,r1,q1⟩=>ho pins s1 σv H1 x w v u Q I1 rx r1 q1)
 rw[e1]
 exact fun ι1 w H1 p1 x1 s1 d1=>⟨ι1,d,y,μ1,s1,IsD.mono p1 x1 _ _ hd,d1,h.mono p1 x1⟩
theorem C1 {op op':Cp} {e e':Expr} {es:List Expr} {ops:List CmpOp} {xe xe':Ex} {r:Cps} (ho:OpR X (compareOp (opOf op)) (rOp X.K (cpD op))) (he:PE X e (tE X.K φ xe)) (hr:PCh X (opOf op'::ops) (e'::es) (tCh X.K φ (.cons op' xe' r))) :
  PCh X (opOf op::opOf op'::ops) (e::e'::es) (tCh X.K φ (.cons op xe (.cons op' xe' r))):=by
 intro pos pins s σv H Q x v I rx ⟨ι,σ,μ,d,hS,hL,hd,h⟩
 rw[Ac]at h
 obtain⟨y,μ1,e1,h⟩:=h.bind
 refine chain_link (thn (he pins s σv H (fun w H1=>rOp X.K (cpD op) x w H1 (fun z H2=>∃k,z=.bl k∧if k=true then tCh X.K φ (.cons op' xe' r) w σv H2 Q else Q (.bl false) H2)) I ⟨ι,σ,μ,hS,hL,?_⟩) fun u s1 ⟨w,H1,I1,r1,q1⟩ =>
  thn (ho pins s1 σv H1 x w v u _ I1 rx r1 q1) fun c s2 ⟨z,H2,I2,r2,k,ek,q2⟩=>?_)
 ·rw[e1]
  intro ι1 w H1 p1 x1 s1 d1
  obtain⟨z,μ2,e2,h⟩:=h.bind
  refine⟨ι1,d,y,μ1,s1,IsD.mono p1 x1 _ _ hd,d1,?_⟩
  rw[e2]
  intro ι2 z' H2 p2 x2 s2 d2
  cases z with
  | bl k =>
   refine⟨k,n4 d2,?_⟩
   cases k with
   | true=>exact⟨ι2,σ,μ2,y,s2,(hL.mono p1 x1).mono p2 x2,IsD.mono p2 x2 _ _ d1,(show c6 _ _ _ _ (evC φ (.cons op' xe' r) y σ μ2) _ from h).mono (p1.trans p2) (x1.trans x2)⟩
   | false=>exact h ι2 (.bl false) H2 (p1.trans p2) (x1.trans x2) s2 (by simp[IsD])
  | _=>exact h.elim
 ·subst ek
  cases r2
  refine CW ?_
  cases k with
  | false=>exact ite_ff ⟨.bl false,H2,I2,rfl,q2⟩
  | true=>exact ite_tt (hr pos pins s2 σv H2 Q w u I2 r1 q2)
theorem C2 {op:Cp} {e:Expr} {xe:Ex} (ho:OpR X (compareOp (opOf op)) (rOp X.K (cpD op))) (he:PE X e (tE X.K φ xe)):PTh X [opOf op] [e] (tTh X.K φ (.cons op xe .nil)):=by
 intro pos pins s σv H Q x v I rx ⟨ι,σ,μ,d,hS,hL,hd,h⟩
 rw[wx,Res.bind_assoc]at h
 obtain⟨y,μ1,e1,h⟩:=h.bind
 refine test_last (thn (he pins s σv H (fun w H1=>rOp X.K (cpD op) x w H1 (fun z H2=>∃k,z=.bl k∧Q k H2)) I ⟨ι,σ,μ,hS,hL,?_⟩) fun u s1 ⟨w,H1,I1,r1,q1⟩=>thn (ho pins s1 σv H1 x w v u _ I1 rx r1 q1) fun c s2 ⟨z,H2,I2,r2,k,ek,q2⟩=>?_)
 ·rw[e1]
  intro ι1 w H1 p1 x1 s1 d1
  obtain⟨z,μ2,e2,h⟩:=h.bind
  refine⟨ι1,d,y,μ1,s1,IsD.mono p1 x1 _ _ hd,d1,?_⟩
  rw[e2]
  intro ι2 z' H2 p2 x2 s2 d2
  cases z with
  | bl k=>exact⟨k,n4 d2,h ι2 k H2 (p1.trans p2) (x1.trans x2) s2 rfl⟩
  | _=>exact h.elim
 ·subst ek
  cases r2
  exact CW ⟨H2,I2,q2⟩
theorem Jh {a:Expr} {xa:Ex} {ops:List CmpOp} {es:List Expr} {r:Cps} {pos:Pos} (ha:PE X a (tE X.K φ xa)) (hr:PCh X ops es (tCh X.K φ r)) (hm:lastMarks ops es=false):PE X (.Compare a ops es pos) (tE X.K φ (.cmp xa r)):=by
 intro pins s σv H Q I ⟨ι,σ,μ,hS,hL,h⟩
 simp only[evE]at h
 obtain⟨d,μ1,e1,h⟩:=h.bind
 show wpAny _ _ (do compareChain pos (←eval a X.env) ops (markedEach ops es (evalEach es X.env))) _ _ _
 rw[markedEach_of_false _ _ _ hm]
 refine AA (thn (ha pins s σv H (fun x H1=>tCh X.K φ r x σv H1 Q) I ⟨ι,σ,μ,hS,hL,?_⟩) fun v s1 ⟨x,H1,I1,r1,q1⟩=>hr pos pins s1 σv H1 Q x v I1 r1 q1)
 rw[e1]
 exact fun ι1 x H1 p1 x1 s1 d1=>⟨ι1,σ,μ1,d,s1,hL.mono p1 x1,d1,h.mono p1 x1⟩
theorem F3 {a:Expr} {xa:Ex} {ops:List CmpOp} {es:List Expr} {r:Cps} {pos:Pos} (ha:PE X a (tE X.K φ xa)) (hr:PTh X ops es (tTh X.K φ r)) (hm:lastMarks ops es=false):PT X (.Compare a ops es pos) (tT X.K φ (.cmp xa r)):=by
 intro pins s σv H Q I ⟨ι,σ,μ,hS,hL,h⟩
 simp only[evE]at h
 rw[Res.bind_assoc]at h
 obtain⟨d,μ1,e1,h⟩:=h.bind
 show wpAny _ _ (do testChain pos (←eval a X.env) ops (markedEach ops es (evalEach es X.env))) _ _ _
 rw[markedEach_of_false _ _ _ hm]
 refine AA (thn (ha pins s σv H (fun x H1=>tTh X.K φ r x σv H1 Q) I ⟨ι,σ,μ,hS,hL,?_⟩) fun v s1 ⟨x,H1,I1,r1,q1⟩=>hr pos pins s1 σv H1 Q x v I1 r1 q1)
 rw[e1]
 exact fun ι1 x H1 p1 x1 s1 d1=>⟨ι1,σ,μ1,d,s1,hL.mono p1 x1,d1,h.mono p1 x1⟩
theorem F4 {l:Expr} {xl:Ex} {tg:Expr} (hl:PE X l (tE X.K φ xl)):PI X tg l (tI X.K φ (.seq xl)):=by
 intro pins s σv H R I ⟨ι,σ,μ,hS,hL,h⟩
 simp only[evI]at h
 cases e1:evE φ xl σ μ with
 | exc _ _ _=>rw[e1]at h;exact h.elim
 | stuck=>rw[e1]at h;exact h.elim
 | ok d μ1 =>
 rw[e1]at h
 simp only[Res.cg]at h
 have hq:tE X.K φ xl σv H (fun v H1=>∃ι1,ι <+: ι1∧Ext H H1∧Sim X.K ι1 H1 μ1∧IsD X.K ι1 H1 d v):=⟨ι,σ,μ,hS,hL,by rw[e1];exact fun ι1 v H1 p1 x1 s1 d1=>⟨ι1,p1,x1,s1,d1⟩⟩
 refine thn (hl pins s σv H _ I hq) fun u s1 ⟨v,H1,I1,r1,ι1,p1,x1,S1,d1⟩=>?_
 -- a list,at a,whatever its items
 have lst:∀(a:Addr) (xs:List V) (ds:List D) (g:Gd),v=.ref a→LsL X.K H1 a xs→ae X.K ι1 H1 ds xs→(∀ι2 H2 μ2,ι1 <+: ι2→Ext H1 H2→Sim X.K ι2 H2 μ2→gd g μ2→∃ys,LsL X.K H2 a ys∧ae X.K ι2 H2 ds ys) →
   (∀ι' H' J,ι <+: ι'→Ext H H'→Sim X.K ι' H' μ1→Walk X.K ι' H' J ds g→R J H')→wpAny (model X.prog X.w) X.A (pyIter u) (PIE X pins σv tg R) X.xe s1:=by
  intro a xs ds g ev hls hds stay hR
  subst ev
  cases(show u=Value.ref a from r1)
  obtain⟨its,rv,p,hz⟩:=I1.list hls.sq
  refine FT p.isList ?_
  refine⟨s1.heap.objs.size,[s1.heap.objs.size],_,_,H1,rfl,I1.kept (t':=s1.toks) fun b o e=>AB _ e,vh a _,⟨_,AG _ rfl,rfl,rfl⟩,fun b hb=>?_,hR ι1 H1 _ p1 x1 S1 ?_⟩
  ·have e:b=s1.heap.objs.size:=by simpa using hb
   subst e
   exact I1.fpOk (AL _) (I1.hok.fresh (AL _))
  ·refine⟨by rw[←hds.length];exact hz,fun i ι2 H2 μ2 q1 q2 q3 q4 hi=>?_,fun i ι2 H2 μ2 w H3 q1 q2 q3 q4 hi hy=>?_,fun ι2 H2 μ2 q1 q2 q3 q4=>?_⟩
   ·obtain⟨ys,y1,y2⟩:=stay ι2 H2 μ2 q1 q2 q3 q4
    obtain⟨w,e,_⟩:=y2.get (AC hi)
    exact⟨ys,w,y1.sq,e⟩
   ·obtain⟨ys,y1,y2⟩:=stay ι2 H2 μ2 q1 q2 q3 q4
    obtain⟨e,hy⟩:=hy
    subst e
    obtain⟨w',e',q'⟩:=y2.get (AC hi)
    have:=hy ys y1.sq
    rw[e']at this;cases this
    exact⟨.refl _,q3,_,AC hi,q'⟩
   ·obtain⟨ys,y1,y2⟩:=stay ι2 H2 μ2 q1 q2 q3 q4
    exact⟨ys,y1.sq,by rw[y2.length];exact AL _⟩
 cases d with
 | tup ds =>
  simp only[a8]at h
  obtain⟨a,xs,rfl,hq,hds⟩:=cm d1
  cases(show u=Value.ref a from r1)
  obtain⟨its,rv,p,hz⟩:=I1.tuple hq
  refine FJ (show s1.heap.IsTuple a its.toArray from p) ?_
  refine⟨s1.heap.objs.size,[s1.heap.objs.size],_,_,H1,rfl,I1.kept (t':=s1.toks) fun b o e=>AB _ e,tf a _,⟨_,AG _ rfl,rfl,rfl⟩,fun b hb=>?_,h ι1 H1 _ p1 x1 S1 ?_⟩
  ·have e:b=s1.heap.objs.size:=by simpa using hb
   subst e
   exact I1.fpOk (AL _) (I1.hok.fresh (AL _))
  ·refine⟨by rw[←hds.length];exact hz,fun i ι2 H2 μ2 q1 q2 q3 q4 hi=>?_,fun i ι2 H2 μ2 w H3 q1 q2 q3 q4 hi hy=>?_,fun ι2 H2 μ2 q1 q2 q3 q4=>?_⟩
   ·obtain⟨w,e,_⟩:=hds.get (AC hi)
    exact⟨xs,w,hq.ext q2,e⟩
   ·obtain⟨e,hy⟩:=hy
    subst e
    obtain⟨w',e',q'⟩:=hds.get (AC hi)
    have:=hy xs (hq.ext q2)
    rw[e']at this;cases this
    exact⟨.refl _,q3,_,AC hi,IsD.mono q1 q2 _ _ q'⟩
   ·exact⟨xs,hq.ext q2,by rw[hds.length];exact AL _⟩
 | lst ds =>
  simp only[a8]at h
  obtain⟨a,xs,rfl,hq,hds⟩:∃a xs,v=.ref a∧FzL X.K H1 a xs∧ae X.K ι1 H1 ds xs:=by simpa[IsD]using d1
  exact lst a xs ds none rfl (.inr hq) hds (fun ι2 H2 μ2 q1 q2 q3 q4=>⟨xs,.inr (hq.ext q2),ae.mono q1 q2 _ _ hds⟩) h
 | loc n =>
  obtain⟨a,rfl,hn⟩:∃a,v=.ref a∧ι1[n]? = some a:=by simpa[IsD]using d1
  have pre:∀{ι2:List Addr},ι1 <+: ι2→ι2[n]? = some a:=fun hp=>by
   obtain⟨t,rfl⟩:=hp
   rw[AR (AK.mp hn).1];exact hn
  cases em:μ1[n]? with
  | none=>simp only[a8,em]at h
  | some o =>
   simp only[a8,em]at h
   cases o with
   | l ds =>
    simp only at h
    obtain⟨a',q',ho⟩:=S1.at em
    rw[hn]at q';cases q'
    obtain⟨xs,f1,f2⟩:=ho
    refine lst a xs ds (some (n,.l ds)) rfl (.inl f1) (ae.mono (CF) (.refl _) _ _ f2) (fun ι2 H2 μ2 q1 q2 q3 q4=>?_) h
    obtain⟨a2,e2,o2⟩:=q3.at (show μ2[n]? = some (.l ds)from q4)
    rw[pre q1]at e2;cases e2
    obtain⟨ys,g1,g2⟩:=o2
    exact⟨ys,.inl g1,ae.mono (CF) (.refl _) _ _ g2⟩
   | r ds =>
    simp only at h
    obtain⟨a',q',ho⟩:=S1.at em
    rw[hn]at q';cases q'
    obtain⟨xs,f1,f2⟩:=ho
    refine lst a xs ds (some (n,.r ds)) rfl (.inl f1) f2 (fun ι2 H2 μ2 q1 q2 q3 q4=>?_) h
    obtain⟨a2,e2,o2⟩:=q3.at (show μ2[n]? = some (.r ds)from q4)
    rw[pre q1]at e2;cases e2
    obtain⟨ys,g1,g2⟩:=o2
    exact⟨ys,.inl g1,g2⟩
   | d kvs=>simp only at h
   | dt kvs=>simp only at h
   | dead=>simp only at h
 | _=>simp only[a8]at h
theorem ua {K:PySem.W.Frag} {ι:List Addr} {H:Hp} (lo:Int) (n:Nat) (hn:n≤sizeLine):Walk K ι H (Itr lo n) ((List.range n).map fun(k:Nat)=>D.int (lo+k)) none:=by
 refine⟨by simpa using hn,fun i ι2 H2 μ2 q1 q2 q3 q4 hi=>by simpa[Itr]using hi,fun i ι2 H2 μ2 w H3 q1 q2 q3 q4 hi hy=>?_,fun ι2 H2 μ2 q1 q2 q3 q4=>by simp[Itr]⟩
 obtain⟨e,hy⟩:=hy
 subst e
 have hi':i<n:=by simpa using hi
 exact⟨.refl _,q3,.int (lo+i),by simp[hi'],by simp[IsD,hy]⟩
theorem F5 {a:Expr} {xa:Ex} {tg:Expr} {p pos:Pos} (hg:Gl X "range") (hm:X.mg "range"=none) (ha:PE X a (tE X.K φ xa)) (hs:starEach [a] X.env=[(false,eval a X.env)]):PI X tg (.Call (.Name "range" p) [a] [] pos) (tI X.K φ (.rng xa)) :=
 PI.imp (vi hg hm (rq ha Cr hs) hs) fun σv H R ⟨ι,σ,μ,hS,hL,h⟩=>by
  simp only[evI]at h
  refine⟨ι,σ,μ,hS,hL,?_⟩
  simp only[fi]
  cases e1:evE φ xa σ μ with
  | exc _ _ _=>rw[e1]at h;exact h.elim
  | stuck=>rw[e1]at h;exact h.elim
  | ok d μ1 =>
   rw[e1]at h
   simp only[Res.cg]at h ⊢
   cases d with
   | int j =>
    simp only at h
    by_cases hj:-(lim:Int)≤j∧j≤lim
    ·rw[if_pos hj]at h
     rw[f6]at hj
     have h24:sizeLine=16777216:=EE
     rw[h24]at hj
     intro ι1 vs H1 p1 x1 s1 d1
     have e:vs=[.int j]:=by
      have q:ae X.K ι1 H1 [.int j] vs:=d1
      simp only[ae]at q
      obtain⟨v,r,rfl,q1,rfl⟩:=q
      cases bw q1
      rfl
     refine⟨j,e,by lia,by lia,h ι1 H1 _ p1 x1 s1 ?_⟩
     have w:=ua (K:=X.K) (ι:=ι1) (H:=H1) 0 j.toNat (by lia)
     simpa using w
    ·rw[if_neg hj]at h
     exact h.elim
   | _=>exact h.elim
end
end Lp
namespace Lp
open PySem PySem.Spec PyProof.Rows L2
section
variable {X : Cx} {φ : Phi} {pins : List (Addr × Obj)} {σ : St} {H : Hp} {s : Shared}
noncomputable def lq (K:PySem.W.Frag) (f:List D→Sto→Res D):List V→Hp→VK→Prop:=fun xs H Q=>∃ι ds μ,Sim K ι H μ∧ae K ι H ds xs∧c6 K (RD K) ι H (f ds μ) Q
theorem F6 {K:PySem.W.Frag} {ι:List Addr} {d:D} {xs:List V} (h:ae K ι H [d] xs):∃v,xs=[v]∧IsD K ι H d v:=by
 simp only[ae]at h
 obtain⟨v,r,rfl,q,rfl⟩:=h
 exact⟨v,rfl,q⟩
theorem wy {K:PySem.W.Frag} {ι:List Addr} {d e:D} {xs:List V} (h:ae K ι H [d,e] xs):∃v w,xs=[v,w]∧IsD K ι H d v∧IsD K ι H e w:=by
 simp only[ae]at h
 obtain⟨v,r,rfl,q,w,r2,rfl,q2,rfl⟩:=h
 exact⟨v,w,rfl,q,q2⟩
theorem gm {K:PySem.W.Frag} {ι:List Addr} {ds:List D} {xs:List V} {μ:Sto} {f:D→Sto→Res D} {Q:VK} (hds:ae K ι H ds xs) (h:c6 K (RD K) ι H (j8 f ds μ) Q) :
  ∃d v,xs=[v]∧IsD K ι H d v∧c6 K (RD K) ι H (f d μ) Q:=by
 unfold j8 at h
 split at h
 ·rename_i d
  obtain⟨v,rfl,hv⟩:=F6 hds
  exact⟨d,v,rfl,hv,h⟩
 ·exact h.elim
theorem qi {K:PySem.W.Frag} {ι:List Addr} {d:D} {v:V} {μ:Sto} {f:List D→Sto→Res D} {Q:VK} (hS:Sim K ι H μ) (hd:IsD K ι H d v) (h:c6 K (RD K) ι H (seq1 f d μ) Q) :
  ∃a xs ds,v=.ref a∧(LsL K H a xs∨SqT K H a xs)∧ae K ι H ds xs∧c6 K (RD K) ι H (f ds μ) Q:=by
 unfold seq1 at h
 split at h
 ·rename_i ds e
  obtain⟨a,xs,rfl,hq,hxs⟩:=kg hS hd e
  exact⟨a,xs,ds,rfl,hq,hxs,h⟩
 ·exact h.elim
theorem wz {K:PySem.W.Frag} {ι:List Addr} {d:D} {v:V} {μ:Sto} {f:List Int→Sto→Res D} {Q:VK} (hS:Sim K ι H μ) (hd:IsD K ι H d v) (h:c6 K (RD K) ι H (zw f d μ) Q) :
  ∃a ns,v=.ref a∧(LsL K H a (ns.map V.int)∨SqT K H a (ns.map V.int))∧c6 K (RD K) ι H (f ns μ) Q:=by
 unfold zw at h
 cases e:bg μ d with
 | none=>rw[e]at h;exact h.elim
 | some ds =>
  rw[e]at h
  simp only[CS]at h
  split at h
  ·rename_i ns e2
   obtain⟨a,xs,rfl,hq,hxs⟩:=kg hS hd e
   rw[ints_of hxs e2]at hq
   exact⟨a,ns,rfl,hq,h⟩
  ·exact h.elim
theorem Ad {K:PySem.W.Frag} {ι:List Addr} {d:D} {v:V} {μ:Sto} {f:List Bool→Sto→Res D} {Q:VK} (hS:Sim K ι H μ) (hd:IsD K ι H d v) (h:c6 K (RD K) ι H (vz f d μ) Q) :
  ∃a ns,v=.ref a∧(LsL K H a (ns.map V.bl)∨SqT K H a (ns.map V.bl))∧c6 K (RD K) ι H (f ns μ) Q:=by
 unfold vz at h
 cases e:bg μ d with
 | none=>rw[e]at h;exact h.elim
 | some ds =>
  rw[e]at h
  simp only[CS]at h
  split at h
  ·rename_i ns e2
   obtain⟨a,xs,rfl,hq,hxs⟩:=kg hS hd e
   rw[r0 hxs e2]at hq
   exact⟨a,ns,rfl,hq,h⟩
  ·exact h.elim
theorem bt_len {m:Mk}:bx X (.builtin "len") (lq X.K (btD .len m)):=bx.imp nu fun xs H Q ⟨ι,ds,μ,hS,hds,h⟩=>by
 obtain⟨d,v,rfl,hv,h⟩:=gm hds h
 obtain⟨a,xs,es,rfl,hq,hxs,h⟩:=qi hS hv h
 exact⟨a,xs,rfl,hq.imp (·.sq) id,by rw[hxs.length];exact h.ok hS (by simp[IsD])⟩
theorem bt_tuple {m:Mk}:bx X (.type "tuple") (lq X.K (btD .tuple m)):=bx.imp k6 fun xs H Q ⟨ι,ds,μ,hS,hds,h⟩=>by
 obtain⟨d,v,rfl,hv,h⟩:=gm hds h
 obtain⟨a,xs,es,rfl,hq,hxs,h⟩:=qi hS hv h
 refine⟨a,xs,rfl,?_⟩
 rcases hq with hq | hq
 ·exact .inl ⟨hq.sq,fun l hl=>lh hS hxs h hl⟩
 ·exact .inr ⟨hq,h.ok hS (tup_is hq hxs)⟩
theorem bt_list {m:Mk}:bx X (.type "list") (lq X.K (btD .list m)):=bx.imp (bx.fq nv) fun xs H Q ⟨ι,ds,μ,hS,hds,h⟩=>by
 obtain⟨d,v,rfl,hv,h⟩:=gm hds h
 obtain⟨a,xs,es,rfl,hq,hxs,h⟩:=qi hS hv h
 exact⟨a,xs,rfl,hq.imp (·.sq) id,fun l hl=>gj hS hxs h hl⟩
theorem bt_min {m:Mk} (hc:X.calm=true):bx X (.builtin "min") (lq X.K (btD .min m)):=bx.imp (vm hc) fun xs H Q ⟨ι,ds,μ,hS,hds,h⟩=>by
 simp only[btD,minD]at h
 split at h
 ·rename_i i j
  obtain⟨v,w,rfl,hv,hw⟩:=wy hds
  cases bw hv
  cases bw hw
  exact⟨i,j,rfl,h.ok hS (by simp[IsD])⟩
 ·exact h.elim
theorem bt_max {m:Mk} (hc:X.calm=true):bx X (.builtin "max") (lq X.K (btD .max m)):=bx.imp (vk hc) fun xs H Q ⟨ι,ds,μ,hS,hds,h⟩=>by
 simp only[btD,maxD]at h
 split at h
 ·rename_i i j
  obtain⟨v,w,rfl,hv,hw⟩:=wy hds
  cases bw hv
  cases bw hw
  exact⟨i,j,rfl,h.ok hS (by simp[IsD])⟩
 ·exact h.elim
theorem r8 {A:Around} {E:Value→Shared→Prop} {a:Addr} {xs:List V} (I:Inv X pins σ H s) (hq:LsL X.K H a xs∨SqT X.K H a xs) (hh:A.handled=none) {Q:Value→Shared→Prop}
  (h:∀(it:Addr) (fp:List Addr) (its:List Value) St s2,a9 xs its→Walks X.prog X.w A it fp [it] its.length (fun i v=>its[i]? = some v) St→St 0 s2.heap→(∀b∈fp,b<s2.heap.objs.size) →
   (∀h' tk,(∀b o,b∉[it]→s2.heap.get? b=some o→h'.get? b=some o)→Inv X pins σ H {s2 with heap:=h',toks:=tk})→Q (.ref it) s2) :
  wpAny (model X.prog X.w) A (pyIter (.ref a)) Q E s:=by
 have fin:∀(ob:Obj) (h':Heap) (tk:Nat),(∀b o,b∉[s.heap.objs.size]→(s.heap.push ob).get? b=some o→h'.get? b=some o)→Inv X pins σ H {s with heap:=h',toks:=tk}:=fun ob h' tk hk =>
  I.kept fun b u e=>hk b u (by simp;exact AI (AF e)) (AB _ e)
 rcases hq with hq | hq
 ·obtain⟨z,its,n,hv,hl,hg⟩:=I.ls hq
  have hil:s.heap.IsList a its.toArray:=⟨_,hg,rfl,n,rfl⟩
  refine FT hil ?_
  have hne:a≠s.heap.objs.size:=AI (AF hg)
  have W:=Walks.list (prog:=X.prog) (w:=X.w) (A:=A) hh s.heap.objs.size a hne its.toArray
  simp only[AE,GR]at W
  refine h s.heap.objs.size _ its _ _ hv W ⟨⟨_,AG _ rfl,rfl,rfl⟩,hil.at fun o e=>AB _ e⟩ (fun b hb=>?_) (fun h' tk hk=>fin _ h' tk hk)
  simp only[AJ,BD,or_false]at hb
  rw[CJ]
  rcases hb with rfl | rfl
  ·exact EN _
  ·exact CY (AF hg)
 ·obtain⟨its,hv,ht,hz⟩:=I.tuple hq
  have hit:s.heap.IsTuple a its.toArray:=ht
  refine FJ hit ?_
  obtain⟨o,ho,_⟩:=id hit
  have hne:a≠s.heap.objs.size:=AI (AF ho)
  have W:=Walks.tuple (prog:=X.prog) (w:=X.w) (A:=A) hh s.heap.objs.size a hne its.toArray
  simp only[AE,GR]at W
  refine h s.heap.objs.size _ its _ _ hv W ⟨⟨_,AG _ rfl,rfl,rfl⟩,hit.at fun o e=>AB _ e⟩ (fun b hb=>?_) (fun h' tk hk=>fin _ h' tk hk)
  simp only[AJ,BD,or_false]at hb
  rw[CJ]
  rcases hb with rfl | rfl
  ·exact EN _
  ·exact CY (AF ho)
theorem oi (ns:List Int):∀k,k≤ns.length→preSum (fun i=>ns.getD i 0) k=(ns.take k).sum
 | 0,_=>by simp[preSum]
 | k+1,h=>by
  rw[preSum,oi ns k (by lia),List.take_succ,List.sum_append,AU,AC (by lia)]
  simp
theorem bt_sum {m:Mk} (hc:X.calm=true):bx X (.builtin "sum") (lq X.K (btD .sum m)):=by
 intro pins s σ H xs us Q I r ⟨ι,ds,μ,hS,hds,h⟩
 obtain⟨d,v,rfl,hv,h⟩:=gm hds h
 obtain⟨a,ns,rfl,hq,h⟩:=wz hS hv h
 obtain⟨u,rfl,ru⟩:=vals1 r
 cases(show u=Value.ref a from ru)
 refine call_sum_walkG (r8 I hq (show X.A.in1.handled=none from I.ok.hd hc) fun it fp its St s2 hvs W st hfp hI=>?_)
 have hl:ns.length=its.length:=by have:=hvs.length;simpa using this
 refine⟨it,fp,[it],its.length,_,St,fun i=>ns.getD i 0,rfl,W,st,hfp,fun i w e=>?_,fun h' tk t' hk=>?_⟩
 ·have hi:i<ns.length:=by rw[hl];exact(AK.mp e).1
  obtain⟨u',e1,⟨t,e2⟩⟩:=hvs.get (i:=i) (x:=.int ns[i]) (by simp[AC hi])
  rw[e]at e1;cases e1
  exact⟨t,by rw[e2];simp[AU,AC hi]⟩
 ·refine⟨.int ns.sum,H,hI h' tk hk,⟨t',?_⟩,h.ok hS (by simp[IsD])⟩
  rw[←hl,oi ns ns.length (AL _),Go]
theorem all_range (bs:List Bool):(List.range bs.length).all (fun i=>bs.getD i false)=bs.all id:=by
 induction bs with
 | nil=>rfl
 | cons b r ih=>rw[BJ,GH,BO,FC,BO];exact congrArg _ ih
theorem Ae {A:Around} {bs:List Bool} {its:List Value} (hvs:a9 (bs.map V.bl) its):TruthOf X.prog X.w A (fun i v=>its[i]? = some v) (fun i=>bs.getD i false):=by
 intro i v s Q E e q
 have hl:bs.length=its.length:=by have:=hvs.length;simpa using this
 have hi:i<bs.length:=by rw[hl];exact(AK.mp e).1
 obtain⟨u',e1,e2⟩:=hvs.get (i:=i) (x:=.bl bs[i]) (by simp[AC hi])
 rw[e]at e1;cases e1
 cases(show v=Value.bool bs[i]from e2)
 refine CW ?_
 simpa[AU,AC hi]using q
theorem bt_all {m:Mk} (hc:X.calm=true):bx X (.builtin "all") (lq X.K (btD .all m)):=by
 intro pins s σ H xs us Q I r ⟨ι,ds,μ,hS,hds,h⟩
 obtain⟨d,v,rfl,hv,h⟩:=gm hds h
 obtain⟨a,bs,rfl,hq,h⟩:=Ad hS hv h
 obtain⟨u,rfl,ru⟩:=vals1 r
 cases(show u=Value.ref a from ru)
 refine call_all_walk (r8 I hq (show X.A.in1.handled=none from I.ok.hd hc) fun it fp its St s2 hvs W st hfp hI=>?_)
 have hl:bs.length=its.length:=by have:=hvs.length;simpa using this
 refine⟨it,fp,[it],its.length,_,St,fun i=>bs.getD i false,rfl,W,st,Ae hvs,fun h' tk hk=>?_⟩
 refine⟨.bl (bs.all id),H,hI h' tk hk,?_,h.ok hS (by simp[IsD])⟩
 rw[←hl,all_range]
 rfl
end
end Lp
namespace Lp
open PySem PySem.Spec PyProof.Rows L2
theorem qj {prog:Program} {w:World} {A:Around} {E:Value→Shared→Prop} {s:Shared} {t sl:Addr} {items:Array Value} {vl vu:Value} {lo hi:Option Int} {Q:Value→Shared→Prop} (ht:IsTup s.heap t items) (hs:s.heap.IsSliceOf sl vl vu .none) (pl:IsPart vl lo) (pu:IsPart vu hi)
  (hw:HT.sIx items.size 0 lo=0∧HT.sIx items.size items.size hi=items.size) (h:Q (.ref t) s):wpAny (model prog w) A (getItem (.ref t) (.ref sl)) Q E s:=by
 obtain⟨os,hos,hcs,hds⟩:=id hs
 have hTs:s.TypeIs (.ref sl) "slice":=⟨os,hos,hcs⟩
 unfold getItem
 try with_reducible refine CP ?_
 first | refine AA (AD ?_) | skip
 refine AA (wpAny_sequenceKey ht.typeIs (by decide) ?_)
 refine AA (BA (name:=Str.ofString "__getitem__") ht.typeIs BL
  (BK BL ht.typeIs entry_tuple_getitem ?_ (args_tuple_getitem _ _)))
 show wpAny _ _ (Builtin.Tuple.tupleItemsOf (.ref t)>>=_) _ _ s
 refine AA (tupleItemsOf_ ht ?_)
 refine AA (FB hTs ?_)
 rw[if_pos (by decide)]
 refine AA (HT.ff hs pl pu ?_)
 have hyes:(((HT.sIx items.size 0 lo:Nat):Int)==0&&(1:Int)==1&&(HT.sIx items.size items.size hi-HT.sIx items.size 0 lo)==items.size)=true:=by
  rw[hw.1,hw.2];simp
 show wpAny _ _ (if(((HT.sIx items.size 0 lo:Nat):Int)==0&&(1:Int)==1&&(HT.sIx items.size items.size hi-HT.sIx items.size 0 lo)==items.size)=true then _ else _) _ _ s
 rw[if_pos hyes]
 refine AA ?_
 unfold Builtin.Tuple.tupleIsExact
 refine AA (FB ht.typeIs (AD ?_))
 rw[if_pos (by decide)]
 exact AA (EO (AD ⟨_,rfl,AD h⟩))
section
variable {X : Cx} {φ : Phi} {pins : List (Addr × Obj)} {σ : St} {H : Hp} {s : Shared}
theorem Ji {m:Mk}:SlR X (fun x lo hi H Q=>∃ι d μ,Sim X.K ι H μ∧IsD X.K ι H d x∧c6 X.K (RD X.K) ι H (slD m d lo hi μ) Q):=by
 intro pins s σ H x v vl vu lo hi sl Q I rx hs pl pu ⟨ι,d,μ,hS,hd,h⟩
 unfold slD at h
 split at h
 ·rename_i ds
  obtain⟨a,xs,rfl,hq,hxs⟩:=cm hd
  by_cases hw:HT.sIx xs.length 0 lo=0∧HT.sIx xs.length xs.length hi=xs.length
  ·cases(show v=Value.ref a from rx)
   obtain⟨its,r,ht,hz⟩:=I.tuple hq
   have hlen:its.toArray.size=xs.length:=by rw[AE];exact r.length.symm
   refine⟨"tuple",_,BL.lookup,ht.typeIs,qj ht hs pl pu (by rw[hlen];exact hw) ⟨.ref a,H,I,rfl,h.ok hS ?_⟩⟩
   have e1:∀n d o,Lp.sIx n d o=HT.sIx n d o:=fun n d o=>by cases o<;>rfl
   have ec:cut ds lo hi=ds:=by
    unfold cut
    rw[e1,e1,←hxs.length,hw.1,hw.2]
    simp[hxs.length]
   rw[ec]
   exact hd
  ·exact Ew pins s σ H _ v vl vu lo hi sl Q I rx hs pl pu ⟨a,xs,rfl,hq,hw,fun p hp=>lh hS (Bd hxs lo hi) h hp⟩
 ·split at h
  ·rename_i es
   obtain⟨a,xs,rfl,ha,hxs⟩:=fj hS hd es
   exact SlR.fq Cg pins s σ H _ v vl vu lo hi sl Q I rx hs pl pu ⟨a,xs,rfl,ha.sq,fun p hp=>gj hS (Bd hxs lo hi) h hp⟩
  ·exact h.elim
theorem PO.imp {e:Option Expr} {t t':TO} (h:PO X e t) (i:∀σ H Q,t' σ H Q→t σ H Q):PO X e t':=by
 intro pins s σ H Q I q
 exact h pins s σ H Q I (i _ _ _ q)
theorem Nt:PO X none (tEo X.K φ .no):=PO.imp Cb fun σv H Q ⟨ι,σ,μ,hS,hL,h⟩=>by
 simp only[evO]at h
 exact h.ok hS rfl
theorem Nu {e:Expr} {x:Ex} (he:PE X e (tE X.K φ x)):PO X (some e) (tEo X.K φ (.so x)):=PO.imp (Cc he) fun σv H Q ⟨ι,σ,μ,hS,hL,h⟩=>by
 simp only[evO]at h
 obtain⟨d,μ1,e1,h⟩:=h.bind
 refine⟨ι,σ,μ,hS,hL,?_⟩
 rw[e1]
 intro ι1 v H1 p1 x1 s1 d1
 cases d with
 | int i=>exact⟨i,bw d1,h ι1 (some i) H1 p1 x1 s1 rfl⟩
 | _=>exact h.elim
theorem Nv {e:Expr} {lo hi:Option Expr} {x:Ex} {xl xh:ExO} {m:Mk} {p2 pos:Pos} (he:PE X e (tE X.K φ x)) (hl:PO X lo (tEo X.K φ xl)) (hh:PO X hi (tEo X.K φ xh)):PE X (.Subscript e (.Slice lo hi none p2) pos) (tE X.K φ (.sl m x xl xh)) :=
 PE.imp (zq Ji he hl hh) fun σv H Q ⟨ι,σ,μ,hS,hL,h⟩=>by
  simp only[evE]at h
  obtain⟨d,μ1,e1,h⟩:=h.bind
  refine⟨ι,σ,μ,hS,hL,?_⟩
  rw[e1]
  intro ι1 v H1 p1 x1 s1 d1
  obtain⟨l,μ2,e2,h⟩:=h.bind
  refine⟨ι1,σ,μ1,s1,hL.mono p1 x1,?_⟩
  rw[e2]
  intro ι2 l' H2 p2 x2 s2 d2
  cases d2
  obtain⟨u,μ3,e3,h⟩:=h.bind
  refine⟨ι2,σ,μ2,s2,(hL.mono p1 x1).mono p2 x2,?_⟩
  rw[e3]
  intro ι3 u' H3 p3 x3 s3 d3
  cases d3
  exact⟨ι3,d,μ3,s3,IsD.mono p3 x3 _ _ (IsD.mono p2 x2 _ _ d1),h.mono ((p1.trans p2).trans p3) ((x1.trans x2).trans x3)⟩
noncomputable def ip:Cl→String
 | .int=>"int"
 | .bool=>"bool"
 | .tuple=>"tuple"
 | .list=>"list"
 | .str=>"str"
 | .own _=>""
noncomputable def lr:String→Cl→Bool
 | "bool",.int=>true
 | "bool",.bool=>true
 | "int",.int=>true
 | "str",.str=>true
 | "tuple",.tuple=>true
 | "list",.list=>true
 | _,_=>false
theorem jk (K:PySem.W.Frag) (t:String) (c:Cl) (hc:∀n,c≠.own n) (ht:t∈["NoneType","bool","int","str","tuple","list"]):PySem.W.kitOne K (.type t) (.type (ip c))=some (lr t c):=by
 simp only[AJ,BD,or_false]at ht
 rcases ht with rfl | rfl | rfl | rfl | rfl | rfl<;>cases c<;>first | rfl | exact absurd rfl (hc _)
theorem F7 {c:Cl} (hc:∀n,c≠.own n):bx X (.builtin "isinstance") (fun xs H Q=>∃ι d μ v,xs=[v,.ty (ip c)]∧Sim X.K ι H μ∧IsD X.K ι H d v∧c6 X.K (RD X.K) ι H (zy c d μ) Q):=by
 intro pins s σ H xs us Q I r ⟨ι,d,μ,v,e,hS,hd,h⟩
 subst e
 obtain⟨u,w,rfl,ru,rw'⟩:=vals2 r
 cases(show w=Value.type (ip c)from rw')
 have key:∀(t:String),t∈["NoneType","bool","int","str","tuple","list"]→(∀tk,EP X pins σ Q (.bool (lr t c)) {s with toks:=tk})→PySem.W.kitOne X.K (.type t) (.type (ip c))=some (lr t c)∧∀tk,EP X pins σ Q (.bool (lr t c)) {s with toks:=tk}:=fun t ht hq=>⟨jk X.K t c hc ht,hq⟩
 have lst:∀a xs,v=.ref a→LsL X.K H a xs→Q (.bl (lr "list" c)) H→wpAny (model X.prog X.w) X.A (call (.builtin "isinstance") [u,.type (ip c)]) (EP X pins σ Q) X.xe s:=fun a xs e hq q=>by
  subst e
  cases(show u=Value.ref a from ru)
  obtain⟨z,its,n,hv,_,hg⟩:=I.ls hq
  exact DK PySem.W.kitx_list I.kIn ⟨_,hg,rfl⟩ (jk X.K "list" c hc (by decide)) (fun z=>nomatch z) fun tk=>⟨.bl (lr "list" c),H,I.tok tk,rfl,q⟩
 cases d with
 | non =>
  cases(show v=.non by simpa[IsD]using hd)
  cases(show u=Value.none from ru)
  refine DK PySem.W.kitx_none I.kIn True.intro (jk X.K "NoneType" c hc (by decide)) (fun z=>nomatch z) fun tk=>⟨.bl (lr "NoneType" c),H,I.tok tk,rfl,?_⟩
  cases c<;>first | exact absurd rfl (hc _) | exact h.ok hS (by simp[IsD,lr])
 | bl b =>
  cases n4 hd
  cases(show u=Value.bool b from ru)
  refine DK PySem.W.kitx_bool I.kIn True.intro (jk X.K "bool" c hc (by decide)) (fun z=>nomatch z) fun tk=>⟨.bl (lr "bool" c),H,I.tok tk,rfl,?_⟩
  cases c<;>first | exact absurd rfl (hc _) | exact h.ok hS (by simp[IsD,lr])
 | int i =>
  cases bw hd
  obtain⟨t,rfl⟩:=(show ∃t,u=Value.int i t from ru)
  refine DK PySem.W.kitx_int I.kIn True.intro (jk X.K "int" c hc (by decide)) (fun z=>nomatch z) fun tk=>⟨.bl (lr "int" c),H,I.tok tk,rfl,?_⟩
  cases c<;>first | exact absurd rfl (hc _) | exact h.ok hS (by simp[IsD,lr])
 | str x =>
  cases(show v=.str x by simpa[IsD]using hd)
  obtain⟨t,rfl⟩:=(show ∃t,u=Value.str x t from ru)
  refine DK PySem.W.kitx_str I.kIn True.intro (jk X.K "str" c hc (by decide)) (fun z=>nomatch z) fun tk=>⟨.bl (lr "str" c),H,I.tok tk,rfl,?_⟩
  cases c<;>first | exact absurd rfl (hc _) | exact h.ok hS (by simp[IsD,lr])
 | tup ds =>
  obtain⟨a,xs,rfl,hq,hxs⟩:=cm hd
  cases(show u=Value.ref a from ru)
  obtain⟨its,hv,⟨o,h1,h2,_⟩,hz⟩:=I.tuple hq
  refine DK PySem.W.kitx_tuple I.kIn ⟨o,h1,h2⟩ (jk X.K "tuple" c hc (by decide)) (fun z=>nomatch z) fun tk=>⟨.bl (lr "tuple" c),H,I.tok tk,rfl,?_⟩
  cases c<;>first | exact absurd rfl (hc _) | exact h.ok hS (by simp[IsD,lr])
 | lst ds =>
  obtain⟨a,xs,rfl,hq,hxs⟩:∃a xs,v=.ref a∧FzL X.K H a xs∧ae X.K ι H ds xs:=by simpa[IsD]using hd
  refine lst a xs rfl (.inr hq) ?_
  cases c<;>first | exact absurd rfl (hc _) | exact h.ok hS (by simp[IsD,lr])
 | loc n =>
  cases c with
  | list =>
   simp only[zy]at h
   split at h
   ·rename_i ds em
    obtain⟨a,xs,rfl,hq,hxs⟩:=fj (ds:=ds) hS hd (by simp[listOf,em])
    exact lst a xs rfl hq (h.ok hS (by simp[IsD,lr]))
   ·rename_i ds em
    obtain⟨a,xs,rfl,hq,hxs⟩:=fj (ds:=ds) hS hd (by simp[listOf,em])
    exact lst a xs rfl hq (h.ok hS (by simp[IsD,lr]))
   ·exact h.elim
  | own k=>exact absurd rfl (hc k)
  | _=>exact h.elim
theorem Jj {a:Expr} {xa:Ex} {c:Cl} {cn:Str} {p cp pos:Pos} (hc:∀n,c≠.own n) (ha:PE X a (tE X.K φ xa)) (hgi:Gl X "isinstance") (hmi:X.mg "isinstance"=none) (hgc:Gl X cn) (hmc:X.mg cn=none) (hbc:bootBuiltins cn=some (.type (ip c)))
  (hn:cn≠"__name__") (hd:(cn==("__debug__":Str))=false) (hs:starEach [a,.Name cn cp] X.env=(false,eval a X.env)::starEach [.Name cn cp] X.env) :
  PE X (.Call (.Name "isinstance" p) [a,.Name cn cp] [] pos) (tE X.K φ (.isi xa c)):=by
 have hb:PE X (.Name cn cp) (tC (.ty (ip c))):=By hgc hmc hbc rfl hn hd
 refine PE.imp (iw (F7 hc) hgi hmi boot_isinstance (p6 ha (p6 hb A7) hs) (by decide) (by decide) hs) fun σv H Q ⟨ι,σ,μ,hS,hL,h⟩=>?_
 simp only[evE]at h
 obtain⟨d,μ1,e1,h⟩:=h.bind
 refine⟨ι,σ,μ,hS,hL,?_⟩
 rw[e1]
 exact fun ι1 v H1 p1 x1 s1 d1=>⟨ι1,d,μ1,v,rfl,s1,d1,h.mono p1 x1⟩
end
end Lp
namespace Lp
open PySem PySem.Spec PyProof.Rows L2
section
variable {X : Cx} {φ : Phi} {pins : List (Addr × Obj)} {σ : St} {H : Hp} {s : Shared}
theorem F8 {K:PySem.W.Frag} {ι:List Addr} {μ:Sto} {n:Nat} {v:V} {ob:O} {xs:List D} (hS:Sim K ι H μ) (hd:IsD K ι H (.loc n) v) (e:μ[n]? = some ob) (hi:kf ob=some xs) :
  ∃a vs,v=.ref a∧ι[n]? = some a∧H a=some (.lst vs)∧ae K ι H xs vs∧(∀ds,ob=.l ds→ae K [] H xs vs):=by
 obtain⟨a,rfl,ha⟩:∃a,v=.ref a∧ι[n]? = some a:=by simpa[IsD]using hd
 obtain⟨a',ea,ho⟩:=hS.at e
 rw[ha]at ea;cases ea
 cases ob with
 | l ds =>
  cases hi
  obtain⟨vs,e1,e2⟩:=ho
  exact⟨a,vs,rfl,ha,e1,ae.mono (CF) (.refl _) _ _ e2,fun _ _=>e2⟩
 | r ds =>
  cases hi
  obtain⟨vs,e1,e2⟩:=ho
  exact⟨a,vs,rfl,ha,e1,e2,fun _ z=>by cases z⟩
 | d _=>cases hi
 | dt _=>cases hi
 | dead=>cases hi
theorem r9 {K:PySem.W.Frag} {ι:List Addr} {μ:Sto} {n:Nat} {ob:O} {ys:List D} {vs ws:List V} {d:D} {v:V} {a:Addr} {Q:VK} (hS:Sim K ι H μ) (ha:ι[n]? = some a) (hH:H a=some (.lst vs))
  (hw:ae K ι H ys ws) (hw0:∀ds,ob=.l ds→ae K [] H ys ws) (hd:IsD K ι H d v) (h:c6 K (RD K) ι H (putL n ob ys d μ) Q):Q v (upd H a (.lst ws)):=by
 cases ob with
 | l ds =>
  exact h ι v _ (AH _) (.lst hH) (hS.put ha (.lst hH) ⟨ws,au,ae.mono (AH _) (.lst hH) _ _ (hw0 ds rfl)⟩) (IsD.mono (AH _) (.lst hH) _ _ hd)
 | r ds =>
  exact h ι v _ (AH _) (.lst hH) (hS.put ha (.lst hH) ⟨ws,au,ae.mono (AH _) (.lst hH) _ _ hw⟩) (IsD.mono (AH _) (.lst hH) _ _ hd)
 | d _=>exact h.elim
 | dt _=>exact h.elim
 | dead=>exact h.elim
theorem oj {K:PySem.W.Frag} {ι:List Addr} {ob:O} {d:D} {v:V} (hf:fits ob d=true) (hd:IsD K ι H d v):∀ds,ob=.l ds→IsD K [] H d v:=fun ds e=>by
 subst e
 exact IsD.pur hf hd
noncomputable def rMt (K:PySem.W.Frag) (mt:Mt):V→List V→Hp→VK→Prop:=fun x vs H Q=>∃ι d ds μ,Sim K ι H μ∧IsD K ι H d x∧ae K ι H ds vs∧c6 K (RD K) ι H (mtD mt d ds μ) Q
theorem F9 {mt:Mt} (hne:mt≠.count∧mt≠.countL∧mt≠.get) {x:V} {vs:List V} {Q:VK} (h:rMt X.K mt x vs H Q):∃ι n ob xs ds μ a ws,Sim X.K ι H μ∧ae X.K ι H ds vs∧x=.ref a∧ι[n]? = some a∧H a=some (.lst ws)∧ae X.K ι H xs ws ∧
  (∀es,ob=.l es→ae X.K [] H xs ws)∧c6 X.K (RD X.K) ι H (mtL mt n ob xs ds μ) Q:=by
 obtain⟨ι,d,ds,μ,hS,hd,hds,h⟩:=h
 have e0:mtD mt d ds μ=v8 mt d ds μ:=by
  cases mt<;>first | exact absurd rfl hne.1 | exact absurd rfl hne.2.1 | exact absurd rfl hne.2.2 | rfl
 rw[e0]at h
 cases d with
 | loc n =>
  simp only[v8]at h
  cases em:μ[n]? with
  | none=>rw[em]at h;exact h.elim
  | some ob =>
   rw[em]at h
   simp only at h
   cases ei:kf ob with
   | none=>rw[ei]at h;exact h.elim
   | some xs =>
    rw[ei]at h
    obtain⟨a,ws,ex,ha,hH,h1,h2⟩:=F8 hS hd em ei
    exact⟨ι,n,ob,xs,ds,μ,a,ws,hS,hds,ex,ha,hH,h1,h2,h⟩
 | _=>exact h.elim
theorem Af:MtR X "list.append" (rMt X.K .append):=MtR.imp vt fun x vs H Q h0=>by
 obtain⟨ι,n,ob,xs,ds,μ,a,ws,hS,hds,rfl,ha,hH,h1,h2,h⟩:=F9 (by decide) h0
 clear h0
 simp only[mtL]at h
 obtain⟨d,v,rfl,hv,h⟩:=gm hds h
 split at h
 ·rename_i hf
  rw[f6]at hf
  refine⟨a,ws,v,rfl,rfl,hH,by rw[h1.length];exact hf.2,r9 hS ha hH (h1.append (.one hv)) (fun es e=>(h2 es e).append (.one (oj hf.1 hv es e))) (by simp[IsD]) h⟩
 ·exact h.elim
end
end Lp
namespace Lp
open PySem PySem.Spec PyProof.Rows L2
theorem IsD.belowN {K:PySem.W.Frag} {ι ι':List Addr} {H:Hp} (hp:ι <+: ι'):∀(k:Nat) (d:D) (v:V),D.belowN ι.length k d=true→IsD K ι' H d v→IsD K ι H d v:=by
 have list:∀(k:Nat),(∀(d:D) (v:V),D.belowN ι.length k d=true→IsD K ι' H d v→IsD K ι H d v) →
   ∀(ds:List D) (xs:List V),ds.all (D.belowN ι.length k)=true→ae K ι' H ds xs→ae K ι H ds xs:=by
  intro k ih ds
  induction ds with
  | nil=>intro xs _ h;simpa[ae]using h
  | cons d ds ihd =>
   intro xs hp h
   simp only[ae]at h ⊢
   simp only[BO,AX]at hp
   obtain⟨v,r,e,q,t⟩:=h
   exact⟨v,r,e,ih d v hp.1 q,ihd r hp.2 t⟩
 have loc:∀(n:Nat) (v:V),n<ι.length→IsD K ι' H (.loc n) v→IsD K ι H (.loc n) v:=fun n v hn h=>by
  simp only[IsD]at h ⊢
  obtain⟨a,e,q⟩:=h
  obtain⟨t,rfl⟩:=hp
  rw[AR hn]at q
  exact⟨a,e,q⟩
 intro k
 induction k with
 | zero =>
  intro d v hb h
  cases d with
  | loc n=>exact loc n v (by simpa[D.belowN]using hb) h
  | tup ds=>simp[D.belowN]at hb
  | lst ds=>simp[D.belowN]at hb
  | _=>simpa[IsD]using h
 | succ k ih =>
  intro d v hb h
  cases d with
  | tup ds =>
   simp only[D.belowN]at hb
   simp only[IsD]at h ⊢
   obtain⟨a,xs,e,q,r⟩:=h
   exact⟨a,xs,e,q,list k ih ds xs hb r⟩
  | lst ds =>
   simp only[D.belowN]at hb
   simp only[IsD]at h ⊢
   obtain⟨a,xs,e,q,r⟩:=h
   exact⟨a,xs,e,q,list k ih ds xs hb r⟩
  | loc n=>exact loc n v (by simpa[D.belowN]using hb) h
  | _=>simpa[IsD]using h
theorem ae.belowN {K:PySem.W.Frag} {ι ι':List Addr} {H:Hp} (hp:ι <+: ι') {k:Nat}:∀(ds:List D) (xs:List V),ds.all (D.belowN ι.length k)=true→ae K ι' H ds xs→ae K ι H ds xs
 | [],xs,_,h=>by simpa[ae]using h
 | d::ds,xs,hb,h=>by
  simp only[ae]at h ⊢
  simp only[BO,AX]at hb
  obtain⟨v,r,e,q,t⟩:=h
  exact⟨v,r,e,IsD.belowN hp k d v hb.1 q,ae.belowN hp ds r hb.2 t⟩
theorem Sim.cut {K:PySem.W.Frag} {ι ι':List Addr} {H:Hp} {μ:Sto} (h:Sim K ι' H μ) (hp:ι <+: ι') (hc:(μ.take ι.length).all (gi ι.length)=true):Sim K ι H (μ.take ι.length):=by
 have hl:ι.length≤μ.length:=by rw[←h.len];exact hp.length_le
 refine⟨by rw[DT];lia,hp.sublist.nodup h.nd,fun n a o e1 e2=>?_⟩
 have hn:n<ι.length:=(AK.mp e1).1
 have e1':ι'[n]? = some a:=by
  obtain⟨t,rfl⟩:=hp
  rw[AR hn];exact e1
 have e2':μ[n]? = some o:=by
  rw[FW hn]at e2;exact e2
 have q:=h.obj n a o e1' e2'
 have c:gi ι.length o=true:=AT.mp hc o (DS e2)
 cases o with
 | l ds=>exact q
 | r ds =>
  obtain⟨xs,e,r⟩:=q
  exact⟨xs,e,ae.belowN hp ds xs c r⟩
 | d kvs=>exact q
 | dt kvs=>exact q
 | dead=>exact q
theorem w4 {K:PySem.W.Frag} {ι:List Addr} {H:Hp} {μ:Sto} {keep:Bool} {r:Res D} {Q:VK} (hS:Sim K ι H μ) (h:c6 K (RD K) ι H (jc keep μ.length r) Q):c6 K (RD K) ι H r Q:=by
 cases r with
 | exc c ds μ'=>exact h
 | stuck=>exact h
 | ok d μ' =>
  cases keep with
  | true=>simpa[jc]using h
  | false =>
   simp only[jc,AQ,if_false]at h
   split at h
   ·rename_i hc
    rw[←hS.len]at hc h
    exact fun ι' v H' p e s q=>h ι v H' (AH _) e (s.cut p hc.2) (IsD.belowN p 8 d v hc.1 q)
   ·exact h.elim
noncomputable def spD (K:PySem.W.Frag) (φ:Phi) (f:Nat):Sp:=fun vs H Q _=>∃ι ds μ,Sim K ι H μ∧ae K ι H ds vs∧c6 K (RD K) ι H (φ f ds μ) Q
noncomputable def Callee (P:Program) (w:World) (K:PySem.W.Frag) (mg:Str→Option Value) (base:Heap) (A:Around) (φ:Phi) (f:Nat) (x:Str):Prop :=
 ∃(k:Nat) (fa:Addr) (fd:FuncData) (ps:List Str),FnOk P w K mg base CX0 k fa fd ps (spD K φ f)∧Room k A∧mg x=some (.ref fa)∧PySem.W.keepIn K (.ref fa)=true∧Binds K fd ps []
section
variable {X : Cx} {φ : Phi} {x : Str} {p pos : Pos} {e : Expr} {es : List Expr} {xs : Exs} {f : Nat} {keep : Bool}
theorem s_call (C:Callee X.prog X.w X.K X.mg X.base X.A φ f x) (hg:Gl X x) (ha:PA X (e::es) (tEs X.K φ xs)) (hdb:(x==("__debug__":Str))=false)
  (he:starEach (e::es) X.env=(false,eval e X.env)::starEach es X.env) (hpl:(backTo pos (starEach es X.env)).any (·.1)=false):PE X (.Call (.Name x p) (e::es) [] pos) (tE X.K φ (.call keep f xs)):=by
 obtain⟨k,fa,fd,ps,F,hr,hm,hk,hb⟩:=C
 refine PE.imp (B9 F hr hg hm hk hb .nil Ii ha hdb he hpl) fun σv H Q ⟨ι,σ,μ,hS,hL,h⟩=>?_
 simp only[evE]at h
 obtain⟨ds,μ1,e1,h⟩:=h.bind
 refine⟨ι,σ,μ,hS,hL,?_⟩
 rw[e1]
 intro ι1 vs H1 p1 x1 s1 d1
 exact⟨ι1,ds,μ1,s1,by rw[List.append_nil];exact d1,w4 s1 (h.mono p1 x1)⟩
end
theorem C3 {P:Program} {w:World} {K:PySem.W.Frag} {mg:Str→Option Value} {base:Heap} {x qual:Str} {st:Stmt} {fa:Addr} {fd:FuncData} {N ps:List Str} {n f:Nat} {T:List Df} {df:Df} (F:Fun K x qual st fa fd) (S:FnScope N ps (ag st))
  (hd:T[f]? = some df) (hnp:df.np=ps.length) (hnn:df.nn=N.length)
  (hb:∀(cdv:Value) (A:Around) (outer:List Env) (s:Shared) (H:Hp) (E:XK),Room n (A.deeper (envOfC qual (ag st) s.heap.objs.size fa cdv)) →
   PSs (A8 CX0 P w K mg base N qual (ag st) fa cdv A outer s H E).nox (az st) (tSs K (ax T n) df.body)):FnOk P w K mg base CX0 (n+1) fa fd ps (spD K (ax T (n+1)) f):=by
 have len:∀{vs:List V} {H:Hp} {ds:List D} {ι:List Addr} {μ:Sto} {Q:VK},ae K ι H ds vs→c6 K (RD K) ι H (ax T (n+1) f ds μ) Q→ds.length=df.np:=fun {vs H ds ι μ Q} hds h=>by
  simp only[ax,hd,D4]at h
  split at h
  ·assumption
  ·exact h.elim
 refine F.ok S (fun vs H Q E ⟨ι,ds,μ,hS,hds,h⟩=>?_) fun cdv A outer s H vs Q E hr ⟨ι,ds,μ,hS,hds,h⟩=>⟨_,hb cdv A outer s H E hr,?_⟩
 ·rw[hds.length,len hds h,hnp]
 ·have hl:=len hds h
  refine⟨ι,ds.map some++List.replicate (df.nn-df.np) none,μ,hS,fun i d e=>?_,?_,?_⟩
  ·by_cases hi:i<ds.length
   ·rw[AR (by simpa using hi),BN]at e
    cases ed:ds[i]? with
    | none=>rw[ed]at e;cases e
    | some d' =>
     rw[ed]at e
     simp only[GO,BC]at e
     subst e
     obtain⟨v,ev,hv⟩:=hds.get ed
     refine⟨v,?_,hv⟩
     unfold L2.start
     rw[AR (by rw[AV,hds.length];exact hi),BN,ev]
     rfl
   ·rw[CB (by simpa using hi),CK]at e
    split at e<;>cases e
  ·unfold L2.start
   simp only[CH,AV,GP,hds.length]
   lia
  ·simp only[ax,hd,D4,if_pos hl]at h
   cases er:ik (ax T n) df.body (ds.map some++List.replicate (df.nn-df.np) none) μ with
   | exc c es μ'=>rw[er]at h;exact h.elim
   | stuck=>rw[er]at h;exact h.elim
   | ok fl μ' =>
    rw[er]at h
    simp only[Res.cg]at h
    cases fl with
    | nx σ'=>exact fun ι' σv H' p e s' l z=>h ι' .non H' p e s' (by simp[IsD])
    | rt d=>exact fun ι' v H' p e s' q=>h ι' v H' p e s' q
    | bk σ'=>exact h.elim
    | ct σ'=>exact h.elim
theorem C4 {P:Program} {w:World} {K:PySem.W.Frag} {mg:Str→Option Value} {base:Heap} {fa:Addr} {fd:FuncData} {ps:List Str} {f:Nat} {T:List Df}:FnOk P w K mg base CX0 0 fa fd ps (spD K (ax T 0) f) :=
 ⟨fun vs H Q E ⟨ι,ds,μ,hS,hds,h⟩=>h.elim,fun A outer s H args us vs Q E hr he hb hv ⟨ι,ds,μ,hS,hds,h⟩=>h.elim⟩
structure Ent where
 id:Nat
 name:Str
 st:Stmt
 N:List Str
 ps:List Str
 df:Df
structure ModOf (K:PySem.W.Frag) (mg:Str→Option Value) (e:Ent):Prop where
 ex:∃(fa:Addr) (fd:FuncData),mg e.name=some (.ref fa)∧Fun K e.name e.name e.st fa fd∧∀us:List Value,us.length=e.ps.length→bindArgs fd ⟨us,[]⟩=pure (e.ps.zip us)
theorem d0 {K:PySem.W.Frag} {h:Heap} {mg:Str→Option Value} {e:Ent} {f:Addr} {oc:Value} {od an:Option Addr} {sl:Array (Option Value)} {kV dc pm cd ct:Value} (X:K.In h) (G:h.Ns mainGlobals mg) (a:PySem.W.nsIn K mainGlobals e.name=some (some (.ref f)))
  (l:K.lookup f=some ⟨oc,od,.func (PySem.W.fnOf e.name e.name (bc e.st) (az e.st) (ag e.st) .none kV dc pm an cd ct),sl⟩) (c:PySem.W.codeIn K cd e.name=true) (k:PySem.W.keepIn K (.ref f)=true)
  (hb:∀(kV doc pm:Value) (an:Option Addr) (cdv ct:Value) (us:List Value),us.length=e.ps.length→bindArgs (PySem.W.fnOf e.name e.name (bc e.st) (az e.st) (ag e.st) .none kV doc pm an cdv ct) ⟨us,[]⟩=pure (e.ps.zip us)):ModOf K mg e :=
 ⟨f,_,PySem.W.mg_of X G a,Fb l c k,hb kV dc pm an cd ct⟩
structure Derived (T:List Df) (P:Program) (w:World) (K:PySem.W.Frag) (mg:Str→Option Value) (base:Heap) (es:List Ent) (e:Ent):Prop where
 sc:FnScope e.N e.ps (ag e.st)
 tb:T[e.id]? = some e.df
 np:e.df.np=e.ps.length
 nn:e.df.nn=e.N.length
 dv:∀(n:Nat) (fa:Addr) (cdv:Value) (A:Around) (outer:List Env) (s:Shared) (H:Hp) (E:XK),(A.deeper (envOfC e.name (ag e.st) s.heap.objs.size fa cdv)).units+64<cLine →
  (∀(j:Nat) e',es[j]? = some e'→Callee P w K mg base (A.deeper (envOfC e.name (ag e.st) s.heap.objs.size fa cdv)) (ax T n) e'.id e'.name) →
  PSs (A8 CX0 P w K mg base e.N e.name (ag e.st) fa cdv A outer s H E).nox (az e.st) (tSs K (ax T n) e.df.body)
theorem Bg {T:List Df} {P:Program} {w:World} {K:PySem.W.Frag} {mg:Str→Option Value} {base:Heap} {es:List Ent} (M:∀(j:Nat) e,es[j]? = some e→ModOf K mg e) (Dv:∀(j:Nat) e,es[j]? = some e→Derived T P w K mg base es e) :
  ∀(n:Nat) (j:Nat) e,es[j]? = some e→∀(fa:Addr) (fd:FuncData),mg e.name=some (.ref fa)→Fun K e.name e.name e.st fa fd→FnOk P w K mg base CX0 n fa fd e.ps (spD K (ax T n) e.id)
 | 0,j,e,_,fa,fd,_,_=>C4
 | n+1,j,e,he,fa,fd,hm,hF=>by
  have d:=Dv j e he
  refine C3 hF d.sc d.tb d.np d.nn fun cdv A outer s H E hr=>d.dv n fa cdv A outer s H E hr.units fun i e' he'=>?_
  obtain⟨fa',fd',hm',hF',hb'⟩:=(M i e' he').ex
  exact⟨n,fa',fd',e'.ps,Bg M Dv n i e' he' fa' fd' hm' hF',hr,hm',hF'.kp,.all hb'⟩
noncomputable def Ag (K:PySem.W.Frag):Sp:=fun vs H Q _=>∃(a:Addr) (ns:List Int),vs=[.ref a]∧FzL K H a (ns.map V.int)∧ns.length≤63∧∀H',Q (.bl true) H'
theorem Ga {T:List Df} {P:Program} {w:World} {K:PySem.W.Frag} {mg:Str→Option Value} {base:Heap} {es:List Ent} {n j:Nat} {e:Ent} {fa:Addr} {fd:FuncData} (M:∀(j:Nat) e,es[j]? = some e→ModOf K mg e) (Dv:∀(j:Nat) e,es[j]? = some e→Derived T P w K mg base es e)
  (he:es[j]? = some e) (hm:mg e.name=some (.ref fa)) (hF:Fun K e.name e.name e.st fa fd) (hps:e.ps.length=1)
  (hlaw:∀ns:List Int,ns.length≤63→∃μ',ax T n e.id [.lst (ns.map D.int)] []=.ok (.bl true) μ'):FnOk P w K mg base CX0 n fa fd e.ps (Ag K):=by
 refine(Bg M Dv n j e he fa fd hm hF).imp fun vs H Q E ⟨a,ns,ev,hS,hl,q⟩=>?_
 subst ev
 obtain⟨μ',el⟩:=hlaw ns hl
 refine⟨[],[.lst (ns.map D.int)],[],⟨rfl,List.nodup_nil,fun n a o e1 e2=>by simp at e1⟩,?_,?_⟩
 ·simp only[ae,IsD]
  exact⟨.ref a,[],rfl,⟨a,_,rfl,hS,ae.ints ns⟩,rfl⟩
 ·rw[el]
  intro ι' v H' p x s' d
  have ev:v=.bl true:=by simpa[IsD]using d
  subst ev
  exact q H'
theorem C5 {T:List Df} {P:Program} {w:World} {K:PySem.W.Frag} {mg:Str→Option Value} {es:List Ent} {n j:Nat} {e:Ent} {fa:Addr} (M:∀(j:Nat) e,es[j]? = some e→ModOf K mg e) (Dv:∀(base:Heap) (j:Nat) e,es[j]? = some e→Derived T P w K mg base es e)
  (he:es[j]? = some e) (hfa:mg e.name=some (.ref fa)) (hps:e.ps=[("script":Str)])
  (hlaw:∀ns:List Int,ns.length≤63→∃μ',ax T n e.id [.lst (ns.map D.int)] []=.ok (.bl true) μ') :
  ∃fd:FuncData,(∀(s:Shared) (v:Value),BindsTo s fd ⟨[v],[]⟩ [("script",v)])∧∀base:Heap,K.In base→base.Ns mainGlobals mg→FnOk P w K mg base CX0 n fa fd ["script"] (Ag K):=by
 obtain⟨fa',fd,hm,hF,hb⟩:=(M j e he).ex
 have z:=hfa.symm.trans hm
 cases z
 rw[hps]at hb
 refine⟨fd,fun s v=>.of_eq (hb [v] rfl),fun base _ _=>?_⟩
 have q:=Ga M (Dv base) he hm hF (by rw[hps];rfl) hlaw
 rw[hps]at q
 exact q
theorem Ah {l:PySem.W.OpenLaw} {n:Nat} {q:Program} {loose:List Str} {XP:(Str→Option Value)→Heap→Prop} {YP:World→Heap→Prop} {d:DefRec} {K:Params→PySem.W.Frag} (hr:Room n callerA) (hn:l.most=some 63) (hdf:d.params.defaults=[])
  (hY:∀(w:World) (h:Heap),YP w h→(K w.params).In h)
  (F:∀(w:World) (mg:Str→Option Value) (fa:Addr) (h:Heap),(K w.params).In h→h.Ns mainGlobals mg→mg d.name=some (.ref fa) →
   ∃fd:FuncData,(∀(s:Shared) (u:Value),BindsTo s fd ⟨[u],[]⟩ [("script",u)])∧∀base:Heap,(K w.params).In base→base.Ns mainGlobals mg→FnOk l.prog w (K w.params) mg base CX0 n fa fd ["script"] (Ag (K w.params))) :
  PySem.W.WalkO q loose XP YP l.row.toRowW d [] (fun f vs=>PySem.call f vs) :=
 L2.Cj (n:=63) (k:=n) (x:="script") (CX:=fun _=>CX0) (sp:=fun w=>Ag (K w.params)) hn (by decide) hdf hr hY F (fun _ _ a ns hl _ hS=>⟨a,ns,rfl,hS,hl,fun _=>rfl⟩) fun _ _ _ _ _ z=>z
end Lp
namespace Lp
open PySem PySem.Spec PyProof.Rows L2
noncomputable def Exs.len:Exs→Nat
 | .nil=>0
 | .cons _ r=>r.len+1
theorem ly {φ:Phi}:∀{xs:Exs} {σ:Sl} {μ:Sto} {ds:List D} {μ':Sto},fi φ xs σ μ=.ok ds μ'→ds.length=xs.len
 | .nil,σ,μ,ds,μ',h=>by
  simp only[fi]at h
  cases h;rfl
 | .cons e r,σ,μ,ds,μ',h=>by
  simp only[fi]at h
  cases e1:evE φ e σ μ with
  | exc _ _ _=>rw[e1]at h;cases h
  | stuck=>rw[e1]at h;cases h
  | ok d μ1 =>
   rw[e1]at h
   simp only[Res.cg]at h
   cases e2:fi φ r σ μ1 with
   | exc _ _ _=>rw[e2]at h;cases h
   | stuck=>rw[e2]at h;cases h
   | ok es μ2 =>
    rw[e2]at h
    cases h
    simp[Exs.len,ly e2]
noncomputable def w6 (sc scope:Scope) (N Nb:List Str) (cap:List Nat) (nl:Nat):Bool :=
 decide (scope.kind=.function)&&scope.names.all (fun y=>decide (y.2≠.cell)&&decide (scope.names.lookup y.1=some y.2)
  && (!decide (y.2=.free) || decide (sc.names.lookup y.1=some .cell) || decide (sc.names.lookup y.1=some .free)))
 && decide Nb.Nodup&&decide (Nb.length=cap.length+nl)
 && (List.range cap.length).all (fun j=>match cap[j]?,Nb[j]? with
  | some i,some x=>decide (N[i]? = some x)&&scope.names.any fun y=>decide (y.1=x)&&decide (y.2=.free)
  | _,_=>false)
theorem lookup_mem {l:List (Str×NameKind)} {n:Str} {k:NameKind} (h:l.lookup n=some k):(n,k)∈l:=by
 induction l with
 | nil=>cases h
 | cons a r ih =>
  obtain⟨m,j⟩:=a
  rw[DA]at h
  cases hb:n==m with
  | true =>
   rw[hb]at h
   cases h
   have:n=m:=by simpa using hb
   subst this
   exact AM
  | false =>
   rw[hb]at h
   exact AN _ (ih h)
theorem jl {scope:Scope} {env:Env} {n:Str} {k:NameKind} (h:(n,k)∈(relabel scope env).names):(n,k)∈scope.names∨(k=.cell∧(n,NameKind.free)∈scope.names):=by
 have h2:(n,k)∈scope.names.map (fun(n,k)=>if(k==NameKind.free&&env.scope.kind==.function&&env.kindOf n==some .cell)then(n,NameKind.cell)else(n,k)):=h
 obtain⟨⟨m,j⟩,hm,e⟩:=GI.mp h2
 dsimp only at e
 split at e
 ·rename_i hc
  cases e
  simp only[AX,beq_iff_eq]at hc
  obtain⟨⟨rfl,_⟩,_⟩:=hc
  exact .inr ⟨rfl,hm⟩
 ·cases e
  exact .inl hm
theorem ub {sc scope:Scope} {N Nb:List Str} {cap:List Nat} {nl:Nat} (h:w6 sc scope N Nb cap nl=true):CompScope sc scope N Nb cap nl:=by
 simp only[w6,AX,AT,decide_eq_true_eq,Bool.or_eq_true,Bool.not_eq_true',decide_eq_false_iff_not]at h
 obtain⟨⟨⟨⟨h1,h2⟩,h3⟩,h4⟩,h5⟩:=h
 refine⟨h1,fun y hy=>(h2 y hy).1.1,fun y hy=>(h2 y hy).1.2,fun n hn=>?_,fun n hn=>?_,h3,h4,fun j i e=>?_⟩
 ·rcases(h2 (n,.free) hn).2 with(z | z) | z
  ·exact absurd rfl z
  ·exact .inl z
  ·exact .inr z
 ·rcases hn with hn | hn
  ·rcases jl (lookup_mem hn)with z | z
   ·exact absurd rfl (h2 _ z).1.1
   ·exact z.2
  ·rcases jl (lookup_mem hn)with z | z
   ·exact z
   ·exact z.2
 ·have hj:j<cap.length:=(AK.mp e).1
  have q:=h5 j (List.mem_range.mpr hj)
  rw[e]at q
  cases ex:Nb[j]? with
  | none=>rw[ex]at q;simp at q
  | some x =>
   rw[ex]at q
   simp only[AX,decide_eq_true_eq,Gt]at q
   obtain⟨q1,⟨y,k⟩,hy,e1,e2⟩:=q
   dsimp only at e1 e2
   subst e1;subst e2
   exact⟨y,rfl,q1,hy⟩
noncomputable def ndB (l:List Str):Bool:=decide l.Nodup
theorem w8 {l:List Str} (h:ndB l=true):l.Nodup:=of_decide_eq_true h
section
variable {X : Cx} {φ : Phi} {a b c e : Expr} {es : List Expr} {xa xb xc xe : Ex} {xs : Exs} {pos : Pos}
theorem aa (i:Nat) {x:Str} (hN:X.N[i]? = some x:=by rfl) (hv:Vis X.env.scope x:=by first | exact Or.inl rfl | exact Or.inr (Or.inl rfl) | exact Or.inr (Or.inr rfl)) (hd:(x==("__debug__":Str))=false:=by decide)
  (hcd:(x==("__classdict__":Str))=false:=by decide):PE X (.Name x pos) (tE X.K φ (.var i)):=Io hN hv hd hcd
theorem Gb (i:Nat) {x:Str} (hN:X.N[i]? = some x:=by rfl) (hv:Vis X.env.scope x:=by first | exact Or.inl rfl | exact Or.inr (Or.inl rfl) | exact Or.inr (Or.inr rfl)) (hd:(x==("__debug__":Str))=false:=by decide)
  (hcd:(x==("__classdict__":Str))=false:=by decide):PE X (.Name x pos) (tE X.K φ (.frz i)):=Jf hN hv hd hcd
theorem ah {i:Int} {j:Nat}:PE X (.Constant (.int i) j pos) (tE X.K φ (.cst (.int i))):=Ip
theorem Bh {i:Bool} {j:Nat}:PE X (.Constant (.bool i) j pos) (tE X.K φ (.cst (.bl i))):=Nm
theorem Jk {j:Nat}:PE X (.Constant .none j pos) (tE X.K φ (.cst .non)):=Iq
theorem ao:PA X [] (tEs X.K φ .nil):=Cr
theorem ab (ha:PE X a (tE X.K φ xa)) (hb:PA X es (tEs X.K φ xs)) (hs:starEach (a::es) X.env=(false,eval a X.env)::starEach es X.env:=by rfl):PA X (a::es) (tEs X.K φ (.cons xa xs)):=rq ha hb hs
theorem ak {op:Operator} {m:Mk} (ha:PE X a (tE X.K φ xa)) (hb:PE X b (tE X.K φ xb)):PE X (.BinOp a op b pos) (tE X.K φ (.bin op m xa xb)):=Ir Ft ha hb
theorem C6 (ha:PE X a (tE X.K φ xa)):PE X (.UnaryOp .USub a pos) (tE X.K φ (.neg xa)):=Iw ha
theorem Jl (ha:PE X a (tE X.K φ xa)):PE X (.UnaryOp .Not a pos) (tE X.K φ (.not xa)):=Fg ha
theorem uc {rest:List Expr} (ha:PE X a (tE X.K φ xa)) (hb:PE X (.BoolOp .And (b::rest) pos) (tE X.K φ xb)):PE X (.BoolOp .And (a::b::rest) pos) (tE X.K φ (.and xa xb)):=Fh ha hb
theorem xf {t:TE} (h:PE X a t):PE X (.BoolOp .And [a] pos) t:=Ef h
theorem Ai {k:Nat} (h:PA X es (tEs X.K φ xs)) (hl:xs.len≤1000:=by decide):PE X (.Tuple es k pos) (tE X.K φ (.tup xs)):=Iu h fun σ μ ds μ' e=>by
 rw[ly e];exact DD (nz hl)
theorem ud {m:Mk} (h:PA X es (tEs X.K φ xs)) (hl:xs.len≤1000:=by decide):PE X (.List es pos) (tE X.K φ (.lst m xs)):=Je h fun σ μ ds μ' e=>by
 rw[ly e];exact DD (nz hl)
theorem u9 (ha:PE X a (tE X.K φ xa)) (hb:PE X b (tE X.K φ xb)) (hs:p8 b:=by intro _ _;rfl):PE X (.Subscript a b pos) (tE X.K φ (.ix xa xb)):=Nn Jg ha hb hs
theorem Nw:PO X none (tEo X.K φ .no):=Nt
theorem Jm (he:PE X e (tE X.K φ xe)):PO X (some e) (tEo X.K φ (.so xe)):=Nu he
theorem La {lo hi:Option Expr} {xl xh:ExO} {m:Mk} {p2:Pos} (he:PE X e (tE X.K φ xe)) (hl:PO X lo (tEo X.K φ xl)) (hh:PO X hi (tEo X.K φ xh)):PE X (.Subscript e (.Slice lo hi none p2) pos) (tE X.K φ (.sl m xe xl xh)):=Nv he hl hh
theorem om (hu:X.A.units+64<cLine) (op:Cp) (he:PE X e (tE X.K φ xe)):PCh X [opOf op] [e] (tCh X.K φ (.cons op xe .nil)):=C0 (wu op (by lia)) he
theorem Nx (hu:X.A.units+64<cLine) (op:Cp) {op':Cp} {e':Expr} {ops:List CmpOp} {xe':Ex} {r:Cps} (he:PE X e (tE X.K φ xe)) (hr:PCh X (opOf op'::ops) (e'::es) (tCh X.K φ (.cons op' xe' r))) :
  PCh X (opOf op::opOf op'::ops) (e::e'::es) (tCh X.K φ (.cons op xe (.cons op' xe' r))):=C1 (wu op (by lia)) he hr
theorem gn (hu:X.A.units+64<cLine) (op:Cp) (he:PE X e (tE X.K φ xe)):PTh X [opOf op] [e] (tTh X.K φ (.cons op xe .nil)):=C2 (wu op (by lia)) he
theorem oo {ops:List CmpOp} {r:Cps} (ha:PE X a (tE X.K φ xa)) (hr:PCh X ops es (tCh X.K φ r)) (hm:lastMarks ops es=false:=by rfl):PE X (.Compare a ops es pos) (tE X.K φ (.cmp xa r)):=Jh ha hr hm
theorem c7 {ops:List CmpOp} {r:Cps} (ha:PE X a (tE X.K φ xa)) (hr:PTh X ops es (tTh X.K φ r)) (hm:lastMarks ops es=false:=by rfl):PT X (.Compare a ops es pos) (tT X.K φ (.cmp xa r)):=F3 ha hr hm
theorem h9 (ha:PE X a (tE X.K φ xa)) (he:∀whole,isTrue a X.env whole=(do let v ←whole;standAt a.pos;holding [v] (truthy v)):=by intro _;rfl):PT X a (tT X.K φ xa):=Cs ha he
theorem sa (ha:PT X a (tT X.K φ xa)):PT X (.UnaryOp .Not a pos) (tT X.K φ (.not xa)):=Ff ha
theorem xg (ha:PT X a (tT X.K φ xa)):PW X (.BoolOp .And [a] pos) (tT X.K φ xa):=Bz ha
theorem sd (ha:PT X a (tT X.K φ xa)):PW X (.BoolOp .Or [a] pos) (tT X.K φ xa):=Ec ha
theorem Bi {rest:List Expr} (ha:PT X a (tT X.K φ xa)) (hb:PW X (.BoolOp .And (b::rest) pos) (tT X.K φ xb)):PW X (.BoolOp .And (a::b::rest) pos) (tT X.K φ (.and xa xb)):=Fi ha hb
theorem xj {rest:List Expr} (ha:PT X a (tT X.K φ xa)) (hb:PW X (.BoolOp .Or (b::rest) pos) (tT X.K φ xb)):PW X (.BoolOp .Or (a::b::rest) pos) (tT X.K φ (.or xa xb)):=Iy ha hb
theorem D5 {t:TT} (h:PW X a t):PT X a t:=h.pt
theorem bq {x:Str} {p:Pos} {f:Nat} {keep:Bool} (C:Callee X.prog X.w X.K X.mg X.base X.A φ f x) (ha:PA X (e::es) (tEs X.K φ xs)) (hg:Gl X x:=by rfl) (hdb:(x==("__debug__":Str))=false:=by decide)
  (he:starEach (e::es) X.env=(false,eval e X.env)::starEach es X.env:=by rfl) (hpl:(backTo pos (starEach es X.env)).any (·.1)=false:=by rfl):PE X (.Call (.Name x p) (e::es) [] pos) (tE X.K φ (.call keep f xs)):=s_call C hg ha hdb he hpl
theorem ia {r:List V→Hp→VK→Prop} {b:Bt} {m:Mk} {es:List Expr} (h:PE X e (tCB (lq X.K (btD b m)) (tEs X.K φ xs))):PE X e (tE X.K φ (.blt b m xs)) :=
 PE.imp h fun σv H Q ⟨ι,σ,μ,hS,hL,h⟩=>by
  simp only[evE]at h
  obtain⟨ds,μ1,e1,h⟩:=h.bind
  refine⟨ι,σ,μ,hS,hL,?_⟩
  rw[e1]
  exact fun ι1 vs H1 p1 x1 s1 d1=>⟨ι1,ds,μ1,s1,d1,h.mono p1 x1⟩
theorem jm {m:Mk} {p:Pos} (hm:X.mg "len"=none) (ha:PA X (e::es) (tEs X.K φ xs)) (hg:Gl X "len":=by rfl) (he:starEach (e::es) X.env=(false,eval e X.env)::starEach es X.env:=by rfl) (hpl:(backTo pos (starEach es X.env)).any (·.1)=false:=by rfl) :
  PE X (.Call (.Name "len" p) (e::es) [] pos) (tE X.K φ (.blt .len m xs)):=ia (r:=fun _ _ _=>True) (es:=es) (iw bt_len hg hm PySem.boot_len ha (by decide) (by decide) he hpl)
theorem jn {m:Mk} {p:Pos} (hm:X.mg "tuple"=none) (ha:PA X (e::es) (tEs X.K φ xs)) (hg:Gl X "tuple":=by rfl) (he:starEach (e::es) X.env=(false,eval e X.env)::starEach es X.env:=by rfl) (hpl:(backTo pos (starEach es X.env)).any (·.1)=false:=by rfl) :
  PE X (.Call (.Name "tuple" p) (e::es) [] pos) (tE X.K φ (.blt .tuple m xs)):=ia (r:=fun _ _ _=>True) (es:=es) (i6 bt_tuple hg hm (by first | exact PyProof.Rows.boot_tuple | decide +kernel) ha (by decide) (by decide) he hpl)
theorem se {m:Mk} {p:Pos} (hm:X.mg "list"=none) (ha:PA X (e::es) (tEs X.K φ xs)) (hg:Gl X "list":=by rfl) (he:starEach (e::es) X.env=(false,eval e X.env)::starEach es X.env:=by rfl) (hpl:(backTo pos (starEach es X.env)).any (·.1)=false:=by rfl) :
  PE X (.Call (.Name "list" p) (e::es) [] pos) (tE X.K φ (.blt .list m xs)):=ia (r:=fun _ _ _=>True) (es:=es) (i6 bt_list hg hm (by first | exact PyProof.Rows.boot_list | decide +kernel) ha (by decide) (by decide) he hpl)
theorem xk {m:Mk} {p:Pos} (hm:X.mg "sum"=none) (ha:PA X (e::es) (tEs X.K φ xs)) (hc:X.calm=true:=by rfl) (hg:Gl X "sum":=by rfl) (he:starEach (e::es) X.env=(false,eval e X.env)::starEach es X.env:=by rfl) (hpl:(backTo pos (starEach es X.env)).any (·.1)=false:=by rfl) :
  PE X (.Call (.Name "sum" p) (e::es) [] pos) (tE X.K φ (.blt .sum m xs)):=ia (r:=fun _ _ _=>True) (es:=es) (iw (bt_sum hc) hg hm (by first | exact PyProof.Rows.boot_sum | decide +kernel) ha (by decide) (by decide) he hpl)
theorem xm {m:Mk} {p:Pos} (hm:X.mg "all"=none) (ha:PA X (e::es) (tEs X.K φ xs)) (hc:X.calm=true:=by rfl) (hg:Gl X "all":=by rfl) (he:starEach (e::es) X.env=(false,eval e X.env)::starEach es X.env:=by rfl) (hpl:(backTo pos (starEach es X.env)).any (·.1)=false:=by rfl) :
  PE X (.Call (.Name "all" p) (e::es) [] pos) (tE X.K φ (.blt .all m xs)):=ia (r:=fun _ _ _=>True) (es:=es) (iw (bt_all hc) hg hm (by first | exact PyProof.Rows.boot_all | decide +kernel) ha (by decide) (by decide) he hpl)
theorem ue {c:Cl} {cn:Str} {p cp:Pos} (ha:PE X a (tE X.K φ xa)) (hmi:X.mg "isinstance"=none) (hmc:X.mg cn=none) (hc:∀n,c≠.own n:=by intro _ h;cases h) (hgi:Gl X "isinstance":=by rfl) (hgc:Gl X cn:=by rfl)
  (hbc:bootBuiltins cn=some (.type (ip c)):=by first | boot_by_name | rfl | kernel_rfl) (hn:cn≠"__name__":=by decide) (hd:(cn==("__debug__":Str))=false:=by decide) (hs:starEach [a,.Name cn cp] X.env=(false,eval a X.env)::starEach [.Name cn cp] X.env:=by rfl) :
  PE X (.Call (.Name "isinstance" p) [a,.Name cn cp] [] pos) (tE X.K φ (.isi xa c)):=Jj hc ha hgi hmi hgc hmc hbc hn hd hs
theorem iq {tg:Expr} (hl:PE X e (tE X.K φ xe)):PI X tg e (tI X.K φ (.seq xe)):=F4 hl
theorem Bj {tg:Expr} {p:Pos} (hm:X.mg "range"=none) (ha:PE X a (tE X.K φ xa)) (hg:Gl X "range":=by rfl) (hs:starEach [a] X.env=[(false,eval a X.env)]:=by rfl):PI X tg (.Call (.Name "range" p) [a] [] pos) (tI X.K φ (.rng xa)):=F5 hg hm ha hs
theorem eu (i:Nat) {y:Str} (hi:X.N[i]? = some y:=by rfl) (hN:ndB X.N=true:=by first | rfl | kernel_rfl) (hx:Loc X.env.scope y:=by first | exact Or.inl rfl | exact Or.inr rfl) (hf:X.fn y=true∨X.env.scope.names.lookup y=some .local:=by first | exact Or.inl rfl | exact Or.inr rfl) :
  PG X (.Name y pos) (tG X.K (.one i)):=Fm (w8 hN) hi hx hf
theorem xn:PGs X [] (tGs X.K []):=Fn
theorem fk (i:Nat) {is:List Nat} {y:Str} (h2:PGs X es (tGs X.K is)) (hi:X.N[i]? = some y:=by rfl) (hN:ndB X.N=true:=by first | rfl | kernel_rfl) (hx:Loc X.env.scope y:=by first | exact Or.inl rfl | exact Or.inr rfl) (hf:X.fn y=true∨X.env.scope.names.lookup y=some .local:=by first | exact Or.inl rfl | exact Or.inr rfl)
  (hs:(assignEach (.Name y pos::es) X.env).map (·.2)=assign (.Name y pos) X.env::(assignEach es X.env).map (·.2):=by rfl):PGs X (.Name y pos::es) (tGs X.K (i::is)):=Ct (vg (w8 hN) hi hx hf) h2 hs
theorem xp {is:List Nat} {k:Nat} (h:PGs X es (tGs X.K is)) (hc:X.calm=true:=by rfl) (hn:(assignEach es X.env).length=is.length:=by rfl) (hst:(assignEach es X.env).findIdx? (·.1)=none:=by rfl):PG X (.Tuple es k pos) (tG X.K (.many is)):=Ja hc h hn hst
theorem ib:PTs X [] (tTs X.K φ .nil):=Fq
theorem l0 {r:List Expr} {xr:Exs} (h1:PT X c (tT X.K φ xc)) (h2:PTs X r (tTs X.K φ xr)):PTs X (c::r) (tTs X.K φ (.cons xc xr)):=Cy h1 h2
theorem kh (Nb:List Str) {target iter:Expr} {ifs:List Expr} {scope:Scope} {cap:List Nat} {nl:Nat} {m:Mk} {tg:Tg} {it:It} {cs:Exs} {elt:Ex} (hi:PI X target iter (tI X.K φ it))
  (B:z5 X scope Nb target ifs e (tG X.K tg) (tTs X.K φ cs) (tE X.K φ elt)) (S:w6 X.env.scope scope X.N Nb cap nl=true:=by first | rfl | kernel_rfl) (hc:X.calm=true:=by rfl) (hf:∀x,foldedSetIterable iter X.env x=pure x:=by intro _;rfl) (hs:∀j∈slots tg,cap.length≤j:=by decide) :
  PE X (.ListComp e [⟨target,iter,ifs,0⟩] scope pos) (tE X.K φ (.comp m cap nl tg it cs elt)):=Fs (ub S) hc hi B hf hs
theorem ef:PSs X [] (tSs X.K φ .nil):=Iz
theorem br {s:Stmt} {ss:List Stmt} {x:Sm} {xss:Sms} (h1:PS X s (tS X.K φ x)) (h2:PSs X ss (tSs X.K φ xss)):PSs X (s::ss) (tSs X.K φ (.cons x xss)):=Fj h1 h2
theorem Jn (he:PE X e (tE X.K φ xe)) (hs:swapsWith e none pos.line X.env=pure false:=by rfl):PS X (.Expr e pos) (tS X.K φ (.ex xe)):=Fk he hs
theorem c8 (he:PE X e (tE X.K φ xe)):PS X (.Return (some e) pos) (tS X.K φ (.ret xe)):=I0 he
theorem xq {x y:List Stmt} {xx xy:Sms} (hc:PT X c (tT X.K φ xc)) (ha:PSs X x (tSs X.K φ xx)) (hb:PSs X y (tSs X.K φ xy)):PS X (.If c x y pos) (tS X.K φ (.ite xc xx xy)):=Np hc ha hb
theorem da (i:Nat) {y:Str} {pos':Pos} (he:PE X e (tE X.K φ xe)) (hi:X.N[i]? = some y:=by rfl) (hN:ndB X.N=true:=by first | rfl | kernel_rfl) (hx:Loc X.env.scope y:=by first | exact Or.inl rfl | exact Or.inr rfl) (hf:X.fn y=true∨X.env.scope.names.lookup y=some .local:=by first | exact Or.inl rfl | exact Or.inr rfl)
  (hs:swapsWith e (some (.Name y pos')) pos.line X.env=pure false:=by rfl):PS X (.Assign [.Name y pos'] e pos) (tS X.K φ (.set i xe)):=Jb (w8 hN) hi hx hf he hs
theorem Jo {is:List Nat} {tg:Expr} (hg:PG X tg (tG X.K (.many is))) (he:PE X e (tE X.K φ xe)) (hs:swapsWithSole [tg] e pos.line X.env=pure false:=by rfl) (hw:swappedStores [tg] e X.env=pure none:=by rfl)
  (h1:(assignEach [tg] X.env).map (·.2)=[assign tg X.env]:=by rfl):PS X (.Assign [tg] e pos) (tS X.K φ (.unp is xe)):=Jc hg he hs hw h1
theorem xu {tg it:Expr} {body:List Stmt} {xt:Tg} {xi:It} {xb:Sms} (hi:PI X tg it (tI X.K φ xi)) (hg:PG X tg (tG X.K xt)) (hb:PSs X body (tSs X.K φ xb)) (hp:PassesOwn (model X.prog X.w) X.A X.env X.xe:=by exact PassesOwn.never) (hc:X.calm=true:=by rfl)
  (hs:∀x,foldedSetIterable it X.env x=pure x:=by intro _;rfl):PS X (.For tg it body [] pos) (tS X.K φ (.loop xt xi xb)):=Jd hp hc hi hg hb hs
end
end Lp
namespace Lp
open PySem PySem.Spec PyProof.Rows L2
section
variable {X : Cx} {φ : Phi} {o e : Expr} {es : List Expr} {xo : Ex} {xs : Exs} {apos cpos : Pos} {T id : String} {name : Str} {mt : Mt}
theorem Bk (hT:∀(ι:List Addr) (H:Hp) (μ:Sto) (d:D) (x:V),Sim X.K ι H μ→IsD X.K ι H d x→jb mt d μ=true→tyV X.K T x H) (h:PE X e (tBM X.K T (rMt X.K mt) (tE X.K φ xo) (tEs X.K φ xs))):PE X e (tE X.K φ (.meth mt xo xs)) :=
 PE.imp h fun σv H Q ⟨ι,σ,μ,hS,hL,h⟩=>by
  simp only[evE]at h
  obtain⟨d,μ1,e1,h⟩:=h.bind
  refine⟨ι,σ,μ,hS,hL,?_⟩
  rw[e1]
  intro ι1 x H1 p1 x1 s1 d1
  split at h
  ·rename_i hm
   refine⟨hT ι1 H1 μ1 d x s1 d1 hm,ι1,σ,μ1,s1,hL.mono p1 x1,?_⟩
   obtain⟨ds,μ2,e2,h⟩:=h.bind
   rw[e2]
   exact fun ι2 vs H2 p2 x2 s2 d2=>⟨ι2,d,ds,μ2,s2,IsD.mono p2 x2 _ _ d1,d2,h.mono (p1.trans p2) (x1.trans x2)⟩
  ·exact h.elim
theorem ki (hmt:∀d μ,jb mt d μ=(listOf μ d).isSome) (ι:List Addr) (H:Hp) (μ:Sto) (d:D) (x:V) (hS:Sim X.K ι H μ) (hd:IsD X.K ι H d x) (hm:jb mt d μ=true):tyV X.K "list" x H:=by
 rw[hmt]at hm
 obtain⟨ds,e⟩:=FV.mp hm
 obtain⟨a,xs,rfl,hls,_⟩:=fj hS hd e
 exact .inl ⟨rfl,_,hls.sq⟩
theorem jo (ho:PE X o (tE X.K φ xo)) (ha:PA X (e::es) (tEs X.K φ xs)) (hbase:attributeBase o "append" X.env (eval o X.env)=eval o X.env:=by rfl)
  (hfew:((backTo cpos (starEach (e::es) X.env)).all (fun x=>!x.1)&&(backToKw cpos (keywordEach [] X.env)).all (fun x=>x.1.isSome)&&decide ((e::es).length+([]:List Keyword).length+(if([]:List Keyword).isEmpty then 0 else 1)<30))=true:=by rfl)
  (hline:(apos.endLine==cpos.line)=true:=by rfl) (hs:starEach (e::es) X.env=(false,eval e X.env)::starEach es X.env:=by rfl) (hplain:(backTo cpos (starEach es X.env)).any (·.1)=false:=by rfl):PE X (.Call (.Attribute o "append" apos) (e::es) [] cpos) (tE X.K φ (.meth .append xo xs)) :=
 Bk (ki fun _ _=>rfl) (E5 F.plainAttrs_list F.slot_list_append F.type_list_append Af ho ha hbase hfew hline hs hplain)
end
end Lp
namespace Lp
open PySem PySem.Spec PyProof.Rows L2
noncomputable def SI (b:Bool) (h:Heap) (it l:Addr) (i:Nat):Prop:=match b with
 | true=>h.IsListIter it l i
 | false=>h.IsTupleIter it l i
noncomputable def SQ (b:Bool) (h:Heap) (l:Addr) (xs:Array Value):Prop:=match b with
 | true=>h.IsList l xs
 | false=>h.IsTuple l xs
noncomputable def Gc:Bool→String
 | true=>"list_iterator"
 | false=>"tuple_iterator"
theorem SI.keep {b:Bool} {h h':Heap} {it l:Addr} {i:Nat} (x:SI b h it l i) (e:∀o,h.get? it=some o→h'.get? it=some o):SI b h' it l i:=by
 cases b
 ·exact Heap.IsTupleIter.at x e
 ·exact Heap.IsListIter.at x e
theorem SI.but {b:Bool} {h h':Heap} {it l c:Addr} {i:Nat} (x:SI b h it l i) (e:Heap.ExtBut c h h') (n:it≠c):SI b h' it l i:=x.keep fun o q=>e it o n q
theorem SI.obj {b:Bool} {h:Heap} {it l:Addr} {i:Nat} (x:SI b h it l i):∃o,h.get? it=some o∧o.cls=.type (Gc b)∧o.data=.fields #[.ref l,.int i 0]:=by
 cases b<;>exact x
theorem SQ.but {b:Bool} {h h':Heap} {l c:Addr} {xs:Array Value} (x:SQ b h l xs) (e:Heap.ExtBut c h h') (n:l≠c):SQ b h' l xs:=by
 cases b
 ·exact Heap.IsTuple.at x fun o q=>e l o n q
 ·exact Heap.IsList.at x fun o q=>e l o n q
theorem SQ.lt {b:Bool} {h:Heap} {l:Addr} {xs:Array Value} (x:SQ b h l xs):l<h.objs.size:=by
 cases b
 ·obtain⟨o,e,_⟩:=x;exact AF e
 ·obtain⟨o,e,_⟩:=x;exact AF e
theorem SQ.push {b:Bool} {h:Heap} {l:Addr} {xs:Array Value} (x:SQ b h l xs) (o:Obj):SQ b (h.push o) l xs:=by
 cases b
 ·exact Heap.IsTuple.push x o
 ·exact Heap.IsList.push x o
section
variable {prog : Program} {w : World} {A : Around} {E : Value → Shared → Prop} {s : Shared}
theorem l4 {b:Bool} {l:Addr} {xs:Array Value} {Q:Value→Shared→Prop} (x:SQ b s.heap l xs) (hQ:Q (.ref s.heap.objs.size) {s with heap:=s.heap.push {cls:=.type (Gc b),data:=.fields #[.ref l,.int 0 0]}}) :
  wpAny (model prog w) A (pyIter (.ref l)) Q E s:=by
 cases b
 ·exact FJ x hQ
 ·exact FT x hQ
theorem qk {b:Bool} {it l:Addr} {i:Nat} {xs:Array Value} {x:Value} {Q:Value→Shared→Prop} (hit:SI b s.heap it l i) (hl:SQ b s.heap l xs) (hx:xs[i]? = some x)
  (hQ:∀h',SI b h' it l (i+1)→Heap.SameBut it s.heap h'→Q x {s with heap:=h'}):wpAny (model prog w) A (Builtin.SmallTypes.nextOf (.ref it)) Q E s:=by
 cases b
 ·obtain⟨o,ho,hc,hd⟩:=hit.obj
  obtain⟨ol,hol,_,nl,hdl⟩:=hl
  have ht:s.TypeIs (.ref it) "tuple_iterator":=⟨o,ho,hc⟩
  unfold Builtin.SmallTypes.nextOf
  refine AA (BA (name:=Str.ofString "__next__") ht CT (BK CT ht FD ?_ (EW _)))
  show wpAny _ _ (field (.ref it) 0>>=_) _ _ s
  refine AA (BS ho hd (x:=.ref l) rfl ?_)
  show wpAny _ _ (if(Value.ref l==Value.none)=true then _ else _) _ _ s
  rw[if_neg (show ¬((Value.ref l==Value.none)=true)from AW)]
  show wpAny _ _ (field (.ref it) 1>>=_) _ _ s
  refine AA (BS ho hd (x:=.int i 0) rfl ?_)
  show wpAny _ _ (seqItems? (.ref l)>>=_) _ _ s
  refine AA (CC hol hdl ?_)
  simp only[BU,hx]
  refine AA (wpAny_setField ho hd (by simp) (AD ⟨x,rfl,AD (hQ _ ?_ (DU ..))⟩))
  exact⟨_,DP _ ho (Obj.isFreed_of_fields (Obj.data_mapFields hd _)),(Obj.cls_mapFields ..).trans hc,by rw[Obj.data_mapFields hd];simp[rawInt]⟩
 ·exact wpAny_nextOf_list_item hit hl hx hQ
theorem Bl {b:Bool} {it l:Addr} {i:Nat} {xs:Array Value} {Q:Value→Shared→Prop} (hh:A.handled=none) (hit:SI b s.heap it l i) (hl:SQ b s.heap l xs) (hx:xs[i]? = none)
  (hE:∀h' e,Heap.ExtBut it s.heap h'→(∃o,h'.get? e=some o∧o.cls=.type "StopIteration")→E (.ref e) {s with heap:=h'}):wpAny (model prog w) A (Builtin.SmallTypes.nextOf (.ref it)) Q E s:=by
 cases b
 ·obtain⟨o,ho,hc,hd⟩:=hit.obj
  obtain⟨ol,hol,_,nl,hdl⟩:=hl
  have ht:s.TypeIs (.ref it) "tuple_iterator":=⟨o,ho,hc⟩
  unfold Builtin.SmallTypes.nextOf
  refine AA (BA (name:=Str.ofString "__next__") ht CT (BK CT ht FD ?_ (EW _)))
  show wpAny _ _ (field (.ref it) 0>>=_) _ _ s
  refine AA (BS ho hd (x:=.ref l) rfl ?_)
  show wpAny _ _ (if(Value.ref l==Value.none)=true then _ else _) _ _ s
  rw[if_neg (show ¬((Value.ref l==Value.none)=true)from AW)]
  show wpAny _ _ (field (.ref it) 1>>=_) _ _ s
  refine AA (BS ho hd (x:=.int i 0) rfl ?_)
  show wpAny _ _ (seqItems? (.ref l)>>=_) _ _ s
  refine AA (CC hol hdl ?_)
  simp only[BU,hx]
  refine AA (EO (AA (wpAny_setField ho hd (by simp) ?_)))
  show wpAny _ _ (newExc (.type "StopIteration") []>>=_) _ _ _
  refine AA ?_
  simp only[newExc,newTuple]
  refine AA (BB ?_ (by size_fits))
  refine AA (m:=firstArgMember _ _) (EH (a:=Value.none) (by first | rfl | (simp only[firstArgMember];rfl)) ?_)
  refine BB ?_ (by size_fits)
  simp only[raiseNew]
  refine AA (wpAny_handled ?_)
  first | rw[show A.in1.handled=none from hh] | rw[hh]
  refine AA (AD (wpAny_throw ?_))
  exact hE _ _ (((DU ..).extBut.push _).push _) ⟨_,AG _ rfl,rfl⟩
 ·exact wpAny_nextOf_list_end hh hit hl hx hE
variable {b1 b2 : Bool} {z TI TO i1 i2 l1 l2 : Addr} {k1 k2 : Nat} {xs ys : Array Value} {x y a b : Value}
theorem C7 {Q:Option Value→Shared→Prop} (D:ZipApart z TI TO i1 i2 l1 l2)
  (hz:IsZip s.heap z TI TO .none) (hTI:IsPair s.heap TI (.ref i1) (.ref i2)) (hTO:IsPair s.heap TO a b)
  (h1:SI b1 s.heap i1 l1 k1) (h2:SI b2 s.heap i2 l2 k2) (hl1:SQ b1 s.heap l1 xs) (hl2:SQ b2 s.heap l2 ys) (hx:xs[k1]? = some x) (hy:ys[k2]? = some y)
  (hQ:∀h',IsZip h' z TI TO (rawInt s.heap.objs.size)→IsPair h' TO x y→SI b1 h' i1 l1 (k1+1)→SI b2 h' i2 l2 (k2+1)→IsPair h' s.heap.objs.size x y →
   (∀c o,c≠z→c≠TO→c≠i1→c≠i2→s.heap.get? c=some o→h'.get? c=some o)→Q (some (.ref s.heap.objs.size)) {s with heap:=h'}) :
  wpAny (model prog w) A (pyNext (.ref z)) Q E s:=by
 have hT:s.TypeIs (.ref z) "zip":=⟨_,hz,rfl⟩
 unfold pyNext
 refine AA (DM (BA (name:=Str.ofString "__next__") hT EX (BK EX hT F.entry_zip_next ?_ (F.args_zip_next_1 _))))
 show wpAny _ _ (field (.ref z) 2>>=_) _ _ _
 refine AA (BS hz rfl (x:=.bool false) rfl ?_)
 show wpAny _ _ (field (.ref z) 3>>=_) _ _ _
 refine AA (BS hz rfl (x:=.ref TI) rfl ?_)
 refine AA (CC hTI rfl ?_)
 show wpAny _ _ (Builtin.SmallTypes.ownedTupleIsFree (.ref z)>>=_) _ _ _
 refine AA ?_
 unfold Builtin.SmallTypes.ownedTupleIsFree
 refine AA (BS hz rfl (x:=.none) rfl (AD ?_))
 simp only[if_true]
 refine AA (EO ?_)
 refine AA (BS hz rfl (x:=.ref TO) rfl ?_)
 refine AA (BH hz (by simp) fun h₁ hz₁ hs₁=>?_)
 replace hz₁:IsZip h₁ z TI TO .ellipsis:=hz₁
 refine AA ?_
 simp only[List.zipIdx_cons,List.zipIdx_nil,EC,List.forIn_nil]
 refine AA (AA (FX ?_))
 show wpAny _ _ (Builtin.SmallTypes.nextOf (.ref i1)>>=_) _ _ _
 refine AA (qk (h1.but hs₁.extBut D.i1z) (hl1.but hs₁.extBut D.l1z) hx fun h₂ h1₂ hs₂=>AD ?_)
 have hTO₂:IsPair h₂ TO a b:=hs₂.extBut _ _ D.TOi1 (hs₁.extBut _ _ D.TOz hTO)
 refine AA (CC hTO₂ rfl ?_)
 refine AA (EV hTO₂ fun h₃ hTO₃ hs₃=>?_)
 replace hTO₃:IsPair h₃ TO x b:=hTO₃
 refine AA (wpAny_letGo (AD ?_))
 refine AA (AA (FX ?_))
 show wpAny _ _ (Builtin.SmallTypes.nextOf (.ref i2)>>=_) _ _ _
 refine AA (qk (((h2.but hs₁.extBut D.i2z).but hs₂.extBut D.i12.symm).but hs₃.extBut D.TOi2.symm) (((hl2.but hs₁.extBut D.l2z).but hs₂.extBut D.l2i1).but hs₃.extBut D.l2TO) hy fun h₄ h2₄ hs₄=>AD ?_)
 have hTO₄:IsPair h₄ TO x b:=hs₄.extBut _ _ D.TOi2 hTO₃
 refine AA (CC hTO₄ rfl ?_)
 refine AA (EV hTO₄ fun h₅ hTO₅ hs₅=>?_)
 replace hTO₅:IsPair h₅ TO x y:=hTO₅
 refine AA (wpAny_letGo (AD (AD ?_)))
 refine AA (CC hTO₅ rfl ?_)
 refine AA (wpAny_newTuple ?_)
 have hsz:h₅.objs.size=s.heap.objs.size:=by rw[hs₅.1,hs₄.1,hs₃.1,hs₂.1,hs₁.1]
 have hz₅:IsZip h₅ z TI TO .ellipsis:=hs₅.extBut _ _ D.TOz.symm (hs₄.extBut _ _ D.i2z.symm (hs₃.extBut _ _ D.TOz.symm (hs₂.extBut _ _ D.i1z.symm hz₁)))
 have hk₅:∀c o,c≠z→c≠TO→c≠i1→c≠i2→s.heap.get? c=some o→h₅.get? c=some o:=fun c o c1 c2 c3 c4 e=>hs₅.extBut _ _ c2 (hs₄.extBut _ _ c4 (hs₃.extBut _ _ c2 (hs₂.extBut _ _ c3 (hs₁.extBut _ _ c1 e))))
 have h1₅:SI b1 h₅ i1 l1 (k1+1):=((h1₂.but hs₃.extBut D.TOi1.symm).but hs₄.extBut D.i12).but hs₅.extBut D.TOi1.symm
 have h2₅:SI b2 h₅ i2 l2 (k2+1):=h2₄.but hs₅.extBut D.TOi2.symm
 have hzlt:z<h₅.objs.size:=AF hz₅
 show wpAny _ _ (Builtin.SmallTypes.ownedTupleHandOut (.ref z) (.ref h₅.objs.size)>>=_) _ _ _
 refine AA ?_
 unfold Builtin.SmallTypes.ownedTupleHandOut
 have hz₆:IsZip (h₅.push {cls:=.type "tuple",data:=.seq #[x,y]}) z TI TO .ellipsis:=AB _ hz₅
 refine AA (BH hz₆ (by simp) fun h₇ hz₇ hs₇=>?_)
 replace hz₇:IsZip h₇ z TI TO (rawInt h₅.objs.size):=hz₇
 refine BH hz₇ (by simp) fun h₈ hz₈ hs₈=>?_
 replace hz₈:IsZip h₈ z TI TO (rawInt h₅.objs.size):=hz₈
 have up:∀c o,c≠z→h₅.get? c=some o→h₈.get? c=some o:=fun c o c1 e=>hs₈.extBut _ _ c1 (hs₇.extBut _ _ c1 (AB _ e))
 have hT₈:IsPair h₈ h₅.objs.size x y:=hs₈.extBut _ _ (CN hzlt) (hs₇.extBut _ _ (CN hzlt) (AG _ rfl))
 rw[hsz]at hz₈ hT₈
 refine AD ⟨_,rfl,?_⟩
 show wpAny _ _ (pure (some (Value.ref h₅.objs.size))) _ _ _
 rw[hsz]
 exact AD (hQ h₈ hz₈ (up _ _ D.TOz hTO₅) (h1₅.keep fun o e=>up _ o D.i1z e) (h2₅.keep fun o e=>up _ o D.i2z e) hT₈ fun c o c1 c2 c3 c4 e=>up c o c1 (hk₅ c o c1 c2 c3 c4 e))
theorem C8 {Q:Fin→Shared→Prop} (hh:A.handled=none) (D:ZipApart z TI TO i1 i2 l1 l2)
  (hz:IsZip s.heap z TI TO .none) (hTI:IsPair s.heap TI (.ref i1) (.ref i2)) (hTO:IsPair s.heap TO a b)
  (h1:SI b1 s.heap i1 l1 k1) (h2:SI b2 s.heap i2 l2 k2) (hl1:SQ b1 s.heap l1 xs) (hl2:SQ b2 s.heap l2 ys) (hend:xs[k1]? = none∨ys[k2]? = none)
  (hE:∀h' e,(∀c o,c≠z→c≠TO→c≠i1→c≠i2→s.heap.get? c=some o→h'.get? c=some o)→(∃o,h'.get? e=some o∧o.cls=.type "StopIteration")→E (.ref e) {s with heap:=h'}) :
  wpAny (model prog w) A (Builtin.«zip.__next__» ⟨[.ref z],[]⟩) Q E s:=by
 show wpAny _ _ (field (.ref z) 2>>=_) _ _ _
 refine AA (BS hz rfl (x:=.bool false) rfl ?_)
 show wpAny _ _ (field (.ref z) 3>>=_) _ _ _
 refine AA (BS hz rfl (x:=.ref TI) rfl ?_)
 refine AA (CC hTI rfl ?_)
 show wpAny _ _ (Builtin.SmallTypes.ownedTupleIsFree (.ref z)>>=_) _ _ _
 refine AA ?_
 unfold Builtin.SmallTypes.ownedTupleIsFree
 refine AA (BS hz rfl (x:=.none) rfl (AD ?_))
 simp only[if_true]
 refine AA (EO ?_)
 refine AA (BS hz rfl (x:=.ref TO) rfl ?_)
 refine AA (BH hz (by simp) fun h₁ hz₁ hs₁=>?_)
 replace hz₁:IsZip h₁ z TI TO .ellipsis:=hz₁
 refine AA ?_
 simp only[List.zipIdx_cons,List.zipIdx_nil,EC,List.forIn_nil]
 refine AA (AA (FX ?_))
 show wpAny _ _ (Builtin.SmallTypes.nextOf (.ref i1)>>=_) _ _ _
 cases hx:xs[k1]? with
 | none =>
  refine AA (Bl hh (h1.but hs₁.extBut D.i1z) (hl1.but hs₁.extBut D.l1z) hx fun h₂ e hs₂ ⟨oe,hoe,hce⟩=>?_)
  have hz₂:IsZip h₂ z TI TO .ellipsis:=hs₂ _ _ D.i1z.symm hz₁
  have hez:e≠z:=fun x=>by subst x;rw[hz₂]at hoe;cases hoe;simp at hce
  exact BH hz₂ (by simp) fun h₃ _ hs₃=>hE h₃ e (fun c o c1 _ c3 _ x=>hs₃.extBut _ _ c1 (hs₂ _ _ c3 (hs₁.extBut _ _ c1 x))) ⟨oe,hs₃.extBut _ _ hez hoe,hce⟩
 | some x =>
  have hy:ys[k2]? = none:=by rcases hend with h | h;rw[hx]at h;cases h;exact h
  refine AA (qk (h1.but hs₁.extBut D.i1z) (hl1.but hs₁.extBut D.l1z) hx fun h₂ h1₂ hs₂=>AD ?_)
  have hTO₂:IsPair h₂ TO a b:=hs₂.extBut _ _ D.TOi1 (hs₁.extBut _ _ D.TOz hTO)
  refine AA (CC hTO₂ rfl ?_)
  refine AA (EV hTO₂ fun h₃ hTO₃ hs₃=>?_)
  refine AA (wpAny_letGo (AD ?_))
  refine AA (AA (FX ?_))
  show wpAny _ _ (Builtin.SmallTypes.nextOf (.ref i2)>>=_) _ _ _
  refine AA (Bl hh (((h2.but hs₁.extBut D.i2z).but hs₂.extBut D.i12.symm).but hs₃.extBut D.TOi2.symm) (((hl2.but hs₁.extBut D.l2z).but hs₂.extBut D.l2i1).but hs₃.extBut D.l2TO) hy fun h₄ e hs₄ ⟨oe,hoe,hce⟩=>?_)
  have hz₄:IsZip h₄ z TI TO .ellipsis:=hs₄ _ _ D.i2z.symm (hs₃.extBut _ _ D.TOz.symm (hs₂.extBut _ _ D.i1z.symm hz₁))
  have hez:e≠z:=fun x=>by subst x;rw[hz₄]at hoe;cases hoe;simp at hce
  exact BH hz₄ (by simp) fun h₅ _ hs₅=>hE h₅ e (fun c o c1 c2 c3 c4 x=>hs₅.extBut _ _ c1 (hs₄ _ _ c4 (hs₃.extBut _ _ c2 (hs₂.extBut _ _ c3 (hs₁.extBut _ _ c1 x))))) ⟨oe,hs₅.extBut _ _ hez hoe,hce⟩
theorem Ge {Q:Option Value→Shared→Prop} (hh:A.handled=none) (D:ZipApart z TI TO i1 i2 l1 l2)
  (hz:IsZip s.heap z TI TO .none) (hTI:IsPair s.heap TI (.ref i1) (.ref i2)) (hTO:IsPair s.heap TO a b)
  (h1:SI b1 s.heap i1 l1 k1) (h2:SI b2 s.heap i2 l2 k2) (hl1:SQ b1 s.heap l1 xs) (hl2:SQ b2 s.heap l2 ys) (hend:xs[k1]? = none∨ys[k2]? = none)
  (hQ:∀h',(∀c o,c≠z→c≠TO→c≠i1→c≠i2→s.heap.get? c=some o→h'.get? c=some o)→Q none {s with heap:=h'}):wpAny (model prog w) A (pyNext (.ref z)) Q E s:=by
 have hT:s.TypeIs (.ref z) "zip":=⟨_,hz,rfl⟩
 unfold pyNext
 refine AA (DM (BA (name:=Str.ofString "__next__") hT EX
  (BK EX hT F.entry_zip_next (C8 hh D hz hTI hTO h1 h2 hl1 hl2 hend fun h' e hk he=>?_) (F.args_zip_next_1 _))))
 obtain⟨o,ho,hc⟩:=he
 exact AA (ER (T:="StopIteration") (b:=true) ⟨o,ho,hc⟩ isSubtype_stop (AD (hQ _ hk)))
noncomputable abbrev zp1 (b1:Bool) (h:Heap) (l1:Addr):Heap:=h.push {cls:=.type (Gc b1),data:=.fields #[.ref l1,.int 0 0]}
noncomputable abbrev zp2 (b1 b2:Bool) (h:Heap) (l1 l2:Addr):Heap:=(zp1 b1 h l1).push {cls:=.type (Gc b2),data:=.fields #[.ref l2,.int 0 0]}
noncomputable abbrev zp3 (b1 b2:Bool) (h:Heap) (l1 l2:Addr):Heap:=(zp2 b1 b2 h l1 l2).push {cls:=.type "tuple",data:=.seq #[.ref h.objs.size,.ref (zp1 b1 h l1).objs.size]}
noncomputable abbrev zp4 (b1 b2:Bool) (h:Heap) (l1 l2:Addr):Heap:=(zp3 b1 b2 h l1 l2).push {cls:=.type "tuple",data:=.seq #[.none,.none]}
noncomputable abbrev zp5 (b1 b2:Bool) (h:Heap) (l1 l2:Addr):Heap:=(zp4 b1 b2 h l1 l2).push {cls:=.type "zip",data:=.fields #[.none,.bool false,.bool false,.ref (zp2 b1 b2 h l1 l2).objs.size,.ref (zp3 b1 b2 h l1 l2).objs.size]}
theorem Gf (b1 b2:Bool) (l1 l2:Addr) (xs ys:Array Value) :
  Meets (Builtin.«zip.__new__» ⟨[.type "zip",.ref l1,.ref l2],[]⟩) (fun _ R s=>SQ b1 s.heap l1 xs∧SQ b2 s.heap l2 ys ∧
   R (.ok (.ret (.ref (zp4 b1 b2 s.heap l1 l2).objs.size))) {s with heap:=zp5 b1 b2 s.heap l1 l2}) :=
 .of_wp fun prog w A R s h=>by
  obtain⟨hp,g,d,tk,os⟩:=s;obtain⟨hl1,hl2,h⟩:=h
  have hsub:=sub_zip
  have hL1:SQ b1 (Shared.heap ⟨hp,g,d,tk,os⟩) l1 xs:=hl1
  have hL2:SQ b2 (Shared.heap ⟨hp.push {cls:=.type (Gc b1),data:=.fields #[.ref l1,.int 0 0]},g,d,tk,os⟩) l2 ys:=SQ.push hl2 _
  wp_walk using l4 hL1,l4 hL2
  exact⟨_,rfl,h⟩
theorem C9 {Q:Value→Shared→Prop} (hl1:SQ b1 s.heap l1 xs) (hl2:SQ b2 s.heap l2 ys)
  (h:∀h',IsZip h' (s.heap.objs.size+4) (s.heap.objs.size+2) (s.heap.objs.size+3) .none→IsPair h' (s.heap.objs.size+2) (.ref s.heap.objs.size) (.ref (s.heap.objs.size+1)) →
   IsPair h' (s.heap.objs.size+3) .none .none→SI b1 h' s.heap.objs.size l1 0→SI b2 h' (s.heap.objs.size+1) l2 0 →
   (∀c o,s.heap.get? c=some o→h'.get? c=some o)→Q (.ref (s.heap.objs.size+4)) {s with heap:=h'}) :
  wpAny (model prog w) A (call (.type "zip") [.ref l1,.ref l2]) Q E s:=by
 refine callType_new F.called_zip (by decide) (F.typeCall_zip_2 _ _) (F.newCall_zip_2 _ _) (fun obj=>F.args_object_init_3 obj _ _) F.entry_zip_new (Gf b1 b2 l1 l2 xs ys) ⟨hl1,hl2,?_⟩
 have z1:(zp1 b1 s.heap l1).objs.size=s.heap.objs.size+1:=CJ ..
 have z2:(zp2 b1 b2 s.heap l1 l2).objs.size=s.heap.objs.size+2:=by rw[CJ,z1]
 have z3:(zp3 b1 b2 s.heap l1 l2).objs.size=s.heap.objs.size+3:=by rw[CJ,z2]
 have z4:(zp4 b1 b2 s.heap l1 l2).objs.size=s.heap.objs.size+4:=by rw[CJ,z3]
 have g5:(zp5 b1 b2 s.heap l1 l2).get? (zp4 b1 b2 s.heap l1 l2).objs.size=some _:=AG _ rfl
 have g4:(zp5 b1 b2 s.heap l1 l2).get? (zp3 b1 b2 s.heap l1 l2).objs.size=some _:=AB _ (AG _ rfl)
 have g3:(zp5 b1 b2 s.heap l1 l2).get? (zp2 b1 b2 s.heap l1 l2).objs.size=some _:=AB _ (AB _ (AG _ rfl))
 have g2:(zp5 b1 b2 s.heap l1 l2).get? (zp1 b1 s.heap l1).objs.size=some _:=AB _ (AB _ (AB _ (AG _ rfl)))
 have g1:(zp5 b1 b2 s.heap l1 l2).get? s.heap.objs.size=some _:=AB _ (AB _ (AB _ (AB _ (AG _ rfl))))
 have s1:SI b1 (zp5 b1 b2 s.heap l1 l2) s.heap.objs.size l1 0:=by cases b1<;>exact⟨_,g1,rfl,rfl⟩
 have s2:SI b2 (zp5 b1 b2 s.heap l1 l2) (zp1 b1 s.heap l1).objs.size l2 0:=by cases b2<;>exact⟨_,g2,rfl,rfl⟩
 show _∧_
 rw[z2,z3,z4]at g5
 rw[z1,z2]at g3
 rw[z3]at g4
 rw[z1]at s2
 rw[z4]
 exact⟨⟨_,g5,rfl⟩,h _ g5 g3 g4 s1 s2 fun c o x=>AB _ (AB _ (AB _ (AB _ (AB _ x))))⟩
end
end Lp
namespace Lp
open PySem PySem.Spec PyProof.Rows L2
section
variable {X : Cx} {pins : List (Addr × Obj)} {σ : St} {H : Hp} {s : Shared} {φ : Phi}
theorem xw {h':Heap} {t':Nat} {ch:List Addr} (I:Inv X pins σ H s) (k:∀b o,b∉ch→s.heap.get? b=some o→h'.get? b=some o) (hf:∀b∈ch,u6 X pins H b):Inv X pins σ H {s with heap:=h',toks:=t'}:=by
 have nit:∀b u,H b=some u→b∉ch:=fun b u e z=>by rw[(hf b z).1]at e;cases e
 refine I.step (g':=s.gens) (d':=s.drawn) (ch:=ch) (fun b hb=>⟨(hf b hb).2.2.2.1,(hf b hb).2.1,(hf b hb).2.2.2.2.1,(hf b hb).2.2.2.2.2⟩) (fun b o _ _ hc e _=>k b o hc e) (fun b o _ _ hc e _=>⟨o.slots,k b o hc e⟩) (fun _ _ _ _ n=>n)
  (fun b o hc e=>⟨o,k b o hc e⟩) (fun _ _ e=>e) (fun _ _ _ e=>e) (fun b ps e=>⟨#[],by rw[e];simp⟩) (fun m hm=>?_) (fun b u e=>?_) I.bare
 ·obtain⟨o,es,ep,ho,r⟩:=hm
  exact⟨o,es,ep,k _ o (fun z=>(hf _ z).2.1 rfl) ho,r⟩
 ·refine(I.hok b u e).stay (fun c v hc q=>k c v ?_ q) (fun _ q=>q) fun _ _ q=>q
  rcases hc with z | z
  ·rw[z];exact nit b u e
  ·exact nit c _ z
noncomputable def Sq (b:Bool) (K:PySem.W.Frag) (H:Hp) (a:Addr) (xs:List V):Prop:=match b with
 | true=>SqL K H a xs
 | false=>SqT K H a xs
theorem Sq.vals {b:Bool} {a:Addr} {xs:List V} (h:Sq b X.K H a xs) (I:Inv X pins σ H s):∃its:List Value,a9 xs its∧SQ b s.heap a its.toArray∧xs.length≤sizeLine:=by
 cases b
 ·obtain⟨its,rv,p,hz⟩:=I.tuple h
  exact⟨its,rv,p,hz⟩
 ·obtain⟨its,rv,p,hz⟩:=I.list h
  exact⟨its,rv,p.isList,hz⟩
theorem Sq.inj {b:Bool} {a:Addr} {xs ys:List V} (h:Sq b X.K H a xs) (I:Inv X pins σ H s) (h':Sq b X.K H a ys):ys=xs:=by
 cases b
 ·exact I.tuple_inj h' h
 ·exact I.list_inj h' h
noncomputable def Itz (K:PySem.W.Frag) (b1 b2:Bool) (a1 a2:Addr):L2.It :=
 ⟨fun i H=>∃xs ys x y,Sq b1 K H a1 xs∧Sq b2 K H a2 ys∧xs[i]? = some x∧ys[i]? = some y,
 fun i H v H'=>∃p x y,v=.ref p∧H p=none∧H'=upd H p (.tup [x,y])∧(∀xs,Sq b1 K H a1 xs→xs[i]? = some x)∧(∀ys,Sq b2 K H a2 ys→ys[i]? = some y),
 fun i H=>∃xs ys,Sq b1 K H a1 xs∧Sq b2 K H a2 ys∧(xs.length≤i∨ys.length≤i)⟩
theorem Aj {P:Program} {w:World} {K:PySem.W.Frag} {elts:List Expr} {k:Nat} {tp:Pos} {b1 b2:Bool} {z TI TO i1 i2 a1 a2:Addr} (D:ZipApart z TI TO i1 i2 a1 a2) :
  Turn P w K (.Tuple elts k tp) (Itz K b1 b2 a1 a2) [z,TI,TO,i1,i2] z (fun i h=>IsZip h z TI TO .none∧IsPair h TI (.ref i1) (.ref i2)∧(∃a b,IsPair h TO a b)∧SI b1 h i1 a1 i∧SI b2 h i2 a2 i) where
 mem:=by simp
 obj:=fun i h ⟨hz,hTI,⟨ta,tb,hTO⟩,s1,s2⟩ b hb=>by
  simp only[AJ,BD,or_false]at hb
  rcases hb with rfl | rfl | rfl | rfl | rfl
  ·exact⟨_,hz,fun v e=>by cases e⟩
  ·exact⟨_,hTI,fun v e=>by cases e⟩
  ·exact⟨_,hTO,fun v e=>by cases e⟩
  ·obtain⟨o,e,_,d⟩:=s1.obj
   exact⟨o,e,fun v q=>by rw[d]at q;cases q⟩
  ·obtain⟨o,e,_,d⟩:=s2.obj
   exact⟨o,e,fun v q=>by rw[d]at q;cases q⟩
 keep:=fun i h h' ⟨hz,hTI,⟨ta,tb,hTO⟩,s1,s2⟩ k=>⟨k z (by simp) _ hz,k TI (by simp) _ hTI,⟨ta,tb,k TO (by simp) _ hTO⟩,s1.keep fun o e=>k i1 (by simp) o e,s2.keep fun o e=>k i2 (by simp) o e⟩
 item:=by
  intro X hP hw hK hc i pins s σ H E I hf ⟨hz,hTI,⟨ta,tb,hTO⟩,s1,s2⟩ hg
  subst hP hw hK
  obtain⟨xs,ys,x,y,q1,q2,ex,ey⟩:=hg
  obtain⟨is1,rv1,p1,_⟩:=q1.vals I
  obtain⟨is2,rv2,p2,_⟩:=q2.vals I
  obtain⟨u1,hu1,ru1⟩:=rv1.get ex
  obtain⟨u2,hu2,ru2⟩:=rv2.get ey
  refine C7 D hz hTI hTO s1 s2 p1 p2 (x:=u1) (y:=u2) (by simpa using hu1) (by simpa using hu2) fun h' c1 c2 c3 c4 c5 kk=>⟨_,rfl,wpAny_letOwnedTupleGo_zip c1 fun h'' z'' sb=>?_⟩
  have fr:H s.heap.objs.size=none:=I.hok.fresh (AL _)
  have lt:∀b∈[z,TI,TO,i1,i2],b≠s.heap.objs.size:=by
   intro b hb
   simp only[AJ,BD,or_false]at hb
   rcases hb with rfl | rfl | rfl | rfl | rfl
   ·exact AI (AF hz)
   ·exact AI (AF hTI)
   ·exact AI (AF hTO)
   ·obtain⟨o,e,_⟩:=s1.obj;exact AI (AF e)
   ·obtain⟨o,e,_⟩:=s2.obj;exact AI (AF e)
  have I1:Inv X pins σ (upd H s.heap.objs.size (.tup [x,y])) {s with heap:=s.heap.push {cls:=.type "tuple",data:=.seq #[u1,u2]},toks:=s.toks} :=
   I.laid (fun b u e=>AB _ e) (AL _) ⟨by show 2≤sizeLine;rw[EE];decide,[u1,u2],.cons ru1 (.cons ru2 .nil),⟨_,AG _ rfl,rfl,rfl,_,rfl⟩⟩
  have hf':∀b∈[z,TI,TO,i1,i2],u6 X pins (upd H s.heap.objs.size (.tup [x,y])) b:=fun b hb=>by
   obtain⟨f0,f⟩:=hf b hb
   exact⟨by rw[ai (lt b hb)];exact f0,f⟩
  have up:∀c o,c≠z→h'.get? c=some o→h''.get? c=some o:=fun c o n e=>sb.extBut _ _ n e
  have I2:=xw (s:={s with heap:=s.heap.push {cls:=.type "tuple",data:=.seq #[u1,u2]},toks:=s.toks}) (h':=h'') (t':=s.toks) (ch:=[z,TI,TO,i1,i2]) I1 (fun b o hb e=>by
   simp only[AJ,BD,or_false,not_or]at hb
   rcases Heap.get?_push_cases e with⟨rfl,rfl⟩ | e
   ·exact up _ _ hb.1 c5
   ·exact up _ _ hb.1 (kk b o hb.1 hb.2.2.1 hb.2.2.2.1 hb.2.2.2.2 e)) hf'
  refine⟨.ref s.heap.objs.size,_,I2,rfl,⟨_,x,y,rfl,fr,rfl,fun zs hz'=>by rw[q1.inj I hz'];exact ex,fun zs hz'=>by rw[q2.inj I hz'];exact ey⟩,?_,fun b hb=>(hf' b hb).1⟩
  ·exact⟨z'',up _ _ D.TIz (kk _ _ D.TIz D.TITO D.TIi1 D.TIi2 hTI),⟨u1,u2,up _ _ D.TOz c2⟩,c3.keep fun o e=>up _ o D.i1z e,c4.keep fun o e=>up _ o D.i2z e⟩
 done:=by
  intro X hP hw hK hc i pins s σ H E I hf ⟨hz,hTI,⟨ta,tb,hTO⟩,s1,s2⟩ hg
  subst hP hw hK
  obtain⟨xs,ys,q1,q2,en⟩:=hg
  obtain⟨is1,rv1,p1,_⟩:=q1.vals I
  obtain⟨is2,rv2,p2,_⟩:=q2.vals I
  have l1:=rv1.length
  have l2:=rv2.length
  refine Ge (I.ok.hd hc) D hz hTI hTO s1 s2 p1 p2 (by rcases en with en | en;exact .inl (by simp;lia);exact .inr (by simp;lia)) fun h' kk=>⟨rfl,xw I (h':=h') (t':=s.toks) (ch:=[z,TI,TO,i1,i2]) (fun b o hb e=>?_) hf⟩
  simp only[AJ,BD,or_false,not_or]at hb
  exact kk b o hb.1 hb.2.2.1 hb.2.2.2.1 hb.2.2.2.2 e
 self:=fun _ _ _ _ _ st h=>wpAny_pyIter_zip st.1 h
theorem x5 {K:PySem.W.Frag} {ι:List Addr} {H:Hp} {μ:Sto} {d:D} {v:V} {ds:List D} {g:Gd} (S:Sim K ι H μ) (hd:IsD K ι H d v) (hw:a8 μ d=some (ds,g)) :
  ∃b a xs,v=.ref a∧Sq b K H a xs∧ae K ι H ds xs∧∀ι2 H2 μ2,ι <+: ι2→Ext H H2→Sim K ι2 H2 μ2→gd g μ2→∃ys,Sq b K H2 a ys∧ae K ι2 H2 ds ys:=by
 cases d with
 | tup es =>
  simp only[a8,BC,ES]at hw
  obtain⟨rfl,rfl⟩:=hw
  obtain⟨a,xs,rfl,hq,hds⟩:=cm hd
  exact⟨false,a,xs,rfl,hq,hds,fun ι2 H2 μ2 q1 q2 q3 q4=>⟨xs,hq.ext q2,ae.mono q1 q2 _ _ hds⟩⟩
 | lst es =>
  simp only[a8,BC,ES]at hw
  obtain⟨rfl,rfl⟩:=hw
  obtain⟨a,xs,rfl,hq,hds⟩:∃a xs,v=.ref a∧FzL K H a xs∧ae K ι H es xs:=by simpa[IsD]using hd
  exact⟨true,a,xs,rfl,hq.sq,hds,fun ι2 H2 μ2 q1 q2 q3 q4=>⟨xs,(hq.ext q2).sq,ae.mono q1 q2 _ _ hds⟩⟩
 | loc n =>
  obtain⟨a,rfl,hn⟩:∃a,v=.ref a∧ι[n]? = some a:=by simpa[IsD]using hd
  have pre:∀{ι2:List Addr},ι <+: ι2→ι2[n]? = some a:=fun hp=>by
   obtain⟨t,rfl⟩:=hp
   rw[AR (AK.mp hn).1];exact hn
  cases em:μ[n]? with
  | none=>simp[a8,em]at hw
  | some o =>
   cases o with
   | l es =>
    simp only[a8,em,BC,ES]at hw
    obtain⟨rfl,rfl⟩:=hw
    obtain⟨a',q',ho⟩:=S.at em
    rw[hn]at q';cases q'
    obtain⟨xs,f1,f2⟩:=ho
    refine⟨true,a,xs,rfl,(show LsL K H a xs from .inl f1).sq,ae.mono (CF) (.refl _) _ _ f2,fun ι2 H2 μ2 q1 q2 q3 q4=>?_⟩
    obtain⟨a2,e2,o2⟩:=q3.at (show μ2[n]? = some (.l es)from q4)
    rw[pre q1]at e2;cases e2
    obtain⟨ys,g1,g2⟩:=o2
    exact⟨ys,(show LsL K H2 a ys from .inl g1).sq,ae.mono (CF) (.refl _) _ _ g2⟩
   | r es =>
    simp only[a8,em,BC,ES]at hw
    obtain⟨rfl,rfl⟩:=hw
    obtain⟨a',q',ho⟩:=S.at em
    rw[hn]at q';cases q'
    obtain⟨xs,f1,f2⟩:=ho
    refine⟨true,a,xs,rfl,(show LsL K H a xs from .inl f1).sq,f2,fun ι2 H2 μ2 q1 q2 q3 q4=>?_⟩
    obtain⟨a2,e2,o2⟩:=q3.at (show μ2[n]? = some (.r es)from q4)
    rw[pre q1]at e2;cases e2
    obtain⟨ys,g1,g2⟩:=o2
    exact⟨ys,(show LsL K H2 a ys from .inl g1).sq,g2⟩
   | d kvs=>simp[a8,em]at hw
   | dt kvs=>simp[a8,em]at hw
   | dead=>simp[a8,em]at hw
 | _=>simp[a8]at hw
theorem Ak {y:D} {ys:List D} (h:bg [] y=some ys) (μ:Sto):a8 μ y=some (ys,none):=by
 cases y<;>simp_all[bg,a8]
theorem Gg {a b:Expr} {xa xb:Ex} {elts:List Expr} {k:Nat} {tp:Pos} {p pos:Pos} (hg:Gl X "zip") (hm:X.mg "zip"=none) (ha:PE X a (tE X.K φ xa)) (hb:PE X b (tE X.K φ xb)) (hs:starEach [a,b] X.env=[(false,eval a X.env),(false,eval b X.env)])
  (hs2:starEach [b] X.env=[(false,eval b X.env)]):PI X (.Tuple elts k tp) (.Call (.Name "zip" p) [a,b] [] pos) (tI X.K φ (.zip xa xb)):=by
 intro pins s σv H R I ⟨ι,σ,μ,hS,hL,h⟩
 simp only[evI]at h
 cases e1:evE φ xa σ μ with
 | exc _ _ _=>rw[e1]at h;exact h.elim
 | stuck=>rw[e1]at h;exact h.elim
 | ok d μ1 =>
 rw[e1]at h
 simp only[Res.cg]at h
 cases e2:evE φ xb σ μ1 with
 | exc _ _ _=>rw[e2]at h;exact h.elim
 | stuck=>rw[e2]at h;exact h.elim
 | ok d2 μ2 =>
 rw[e2]at h
 simp only[Res.cg]at h
 have hq:tEs X.K φ (.cons xa (.cons xb .nil)) σv H (fun vs H1=>∃ι1,ι <+: ι1∧Ext H H1∧Sim X.K ι1 H1 μ2∧ae X.K ι1 H1 [d,d2] vs):=⟨ι,σ,μ,hS,hL,by
  simp only[fi,e1,e2,Res.cg]
  exact fun ι1 v H1 p1 x1 s1 d1=>⟨ι1,p1,x1,s1,d1⟩⟩
 refine Call_ (i5 I hg hm PyProof.Rows.boot_zip (CO (thn (rq ha (rq hb Cr hs2) (by rw[hs,hs2]) pos pins s σv H _ I hq) fun us s1 ⟨vs,H1,I1,r1,ι1,p1,x1,S1,d1⟩=>?_) (by rw[hs,hs2]) (by rw[hs2];rfl)))
 simp only[ae]at d1
 obtain⟨v1,_,rfl,q1,v2,_,rfl,q2,rfl⟩:=d1
 cases r1 with
 | cons ra rr =>
 cases rr with
 | cons rb rr =>
 cases rr
 cases ew:a8 μ2 d with
 | none=>simp only[ew]at h
 | some wg =>
 obtain⟨ds,g⟩:=wg
 cases ey:bg [] d2 with
 | none=>simp only[ew,ey]at h
 | some es =>
 simp only[ew,ey]at h
 obtain⟨b1,a1,xs,rfl,sq1,ds1,st1⟩:=x5 S1 q1 ew
 obtain⟨b2,a2,ys,rfl,sq2,ds2,st2⟩:=x5 S1 q2 (Ak ey μ2)
 cases ra
 cases rb
 obtain⟨i1,rv1,p1',z1⟩:=sq1.vals I1
 obtain⟨i2,rv2,p2',z2⟩:=sq2.vals I1
 refine C9 p1' p2' fun h' c1 c2 c3 c4 c5 kk=>?_
 refine wpAny_pyIter_zip c1 ?_
 have I2:Inv X pins σv H1 {s1 with heap:=h'}:=I1.kept (t':=s1.toks) kk
 refine⟨_,[s1.heap.objs.size+4,s1.heap.objs.size+2,s1.heap.objs.size+3,s1.heap.objs.size,s1.heap.objs.size+1],_,_,H1,rfl,I2,Aj (b1:=b1) (b2:=b2) (zipApart_new p1'.lt p2'.lt),⟨c1,c2,⟨_,_,c3⟩,c4,c5⟩,fun b hb=>?_,h ι1 H1 _ p1 x1 S1 ?_⟩
 ·have hb':s1.heap.objs.size≤b:=by
   simp only[AJ,BD,or_false]at hb
   rcases hb with rfl | rfl | rfl | rfl | rfl<;>first | exact AL _ | exact Nat.le_add_right _ _
  exact I1.fpOk hb' (I1.hok.fresh hb')
 ·have hlen:((ds.zip es).map fun p=>D.tup [p.1,p.2]).length=min ds.length es.length:=by simp
  have n1:=ds1.length
  have n2:=ds2.length
  refine⟨by rw[hlen];lia,fun i ι2 H2 μ3 q1 q2 q3 q4 hi=>?_,fun i ι2 H2 μ3 w H3 q1 q2 q3 q4 hi hy=>?_,fun ι2 H2 μ3 q1 q2 q3 q4=>?_⟩
  ·rw[hlen]at hi
   obtain⟨xs',y1,y2⟩:=st1 ι2 H2 μ3 q1 q2 q3 q4
   obtain⟨ys',y3,y4⟩:=st2 ι2 H2 μ3 q1 q2 q3 trivial
   obtain⟨v,ev,_⟩:=y2.get (AC (by lia:i<ds.length))
   obtain⟨v',ev',_⟩:=y4.get (AC (by lia:i<es.length))
   exact⟨xs',ys',v,v',y1,y3,ev,ev'⟩
  ·rw[hlen]at hi
   obtain⟨xs',y1,y2⟩:=st1 ι2 H2 μ3 q1 q2 q3 q4
   obtain⟨ys',y3,y4⟩:=st2 ι2 H2 μ3 q1 q2 q3 trivial
   have hi1:i<ds.length:=by lia
   have hi2:i<es.length:=by lia
   obtain⟨v,ev,hv⟩:=y2.get (AC hi1)
   obtain⟨v',ev',hv'⟩:=y4.get (AC hi2)
   obtain⟨p,x,y,rfl,hp,rfl,f1,f2⟩:=hy
   have e1':=f1 _ y1
   rw[ev]at e1';cases e1'
   have e2':=f2 _ y3
   rw[ev']at e2';cases e2'
   have X1:Ext H2 (upd H2 p (.tup [v,v'])):=Ext.new hp
   refine⟨X1,q3.new hp,.tup [ds[i],es[i]],by simp[List.getElem?_zip_eq_some,hi1,hi2],tup_is (xs:=[v,v']) (.inl ?_) ?_⟩
   ·exact .inl au
   ·simp only[ae]
    exact⟨v,_,rfl,IsD.mono (AH _) X1 _ _ hv,v',_,rfl,IsD.mono (AH _) X1 _ _ hv',rfl⟩
  ·obtain⟨xs',y1,y2⟩:=st1 ι2 H2 μ3 q1 q2 q3 q4
   obtain⟨ys',y3,y4⟩:=st2 ι2 H2 μ3 q1 q2 q3 trivial
   have m1:=y2.length
   have m2:=y4.length
   rw[hlen]
   exact⟨xs',ys',y1,y3,by lia⟩
theorem Gh {a b:Expr} {xa xb:Ex} {elts:List Expr} {k:Nat} {tp:Pos} {p pos:Pos} (hm:X.mg "zip"=none) (ha:PE X a (tE X.K φ xa)) (hb:PE X b (tE X.K φ xb)) (hg:Gl X "zip":=by rfl) (hs:starEach [a,b] X.env=[(false,eval a X.env),(false,eval b X.env)]:=by rfl) (hs2:starEach [b] X.env=[(false,eval b X.env)]:=by rfl) :
  PI X (.Tuple elts k tp) (.Call (.Name "zip" p) [a,b] [] pos) (tI X.K φ (.zip xa xb)):=Gg hg hm ha hb hs hs2
end
end Lp
namespace Lp.Srt
open PySem PySem.W PyProof.Rows PySem.Calls
theorem x6:∀a:List Int,lexLt a a=false
 | []=>rfl
 | x::xs=>by simp[lexLt,x6 xs]
theorem x8:∀{a b c:List Int},lexLt a b=true→lexLt b c=true→lexLt a c=true
 | a,b,[],_,h=>by cases b<;>simp[lexLt]at h
 | [],_,_::_,_,_=>rfl
 | x::xs,[],c::cs,h,_=>by simp[lexLt]at h
 | x::xs,y::ys,z::zs,h1,h2=>by
  simp only[lexLt]at h1 h2 ⊢
  by_cases e1:x=y
  ·subst e1
   by_cases e2:x=z
   ·subst e2
    simp only[if_true]at h1 h2 ⊢
    exact x8 h1 h2
   ·simp only[if_true]at h1
    rw[if_neg e2]at h2 ⊢
    exact h2
  ·rw[if_neg e1]at h1
   have h1':=of_decide_eq_true h1
   by_cases e2:y=z
   ·subst e2
    rw[if_neg e1]
    exact h1
   ·rw[if_neg e2]at h2
    have h2':=of_decide_eq_true h2
    rw[if_neg (show ¬x=z by lia)]
    exact decide_eq_true (by lia)
theorem x9:∀{a b:List Int},lexLt a b=false→lexLt b a=false→a=b
 | [],[],_,_=>rfl
 | [],_::_,h,_=>by simp[lexLt]at h
 | _::_,[],_,h=>by simp[lexLt]at h
 | x::xs,y::ys,h1,h2=>by
  simp only[lexLt]at h1 h2
  by_cases e:x=y
  ·subst e
   simp only[if_true]at h1 h2
   rw[x9 h1 h2]
  ·rw[if_neg e]at h1
   rw[if_neg (Ne.symm e)]at h2
   have a1:=of_decide_eq_false h1
   have a2:=of_decide_eq_false h2
   lia
theorem Gi {r a b:List Int} (h1:lexLt r b=true) (h2:lexLt a b=false):lexLt r a=true:=by
 cases e:lexLt r a with
 | true=>rfl
 | false =>
  cases e2:lexLt a r with
  | true=>rw[x8 e2 h1]at h2;cases h2
  | false=>rw[x9 e e2,h2]at h1;cases h1
theorem Gj {a b:List Int} (h:lexLt a b=true):lexLt b a=false:=by
 cases e:lexLt b a with
 | false=>rfl
 | true=>have:=x8 h e;rw[x6]at this;cases this
theorem sf (x:List Int):∀l:List (List Int),(Co x l).Perm (x::l)
 | []=>.refl _
 | y::r=>by
  unfold Co
  split
  ·exact((sf x r).cons y).trans (.swap x y r)
  ·exact .refl _
theorem ins_up (x:List Int):∀l:List (List Int),l.Pairwise (fun a b=>lexLt b a=false)→(Co x l).Pairwise (fun a b=>lexLt b a=false)
 | [],_=>by simp[Co]
 | y::r,h=>by
  unfold Co
  have h':=AS.mp h
  split
  ·rename_i hc
   refine AS.mpr ⟨fun z hz=>?_,ins_up x r h'.2⟩
   rcases AJ.mp ((sf x r).mem_iff.mp hz)with rfl | hz
   ·exact Gj hc
   ·exact h'.1 z hz
  ·rename_i hc
   have hc':lexLt y x=false:=by simpa using hc
   refine AS.mpr ⟨fun z hz=>?_,h⟩
   rcases AJ.mp hz with rfl | hz
   ·exact hc'
   ·cases e:lexLt z x with
    | false=>rfl
    | true=>have:=Gi e hc';rw[h'.1 z hz]at this;cases this
end Lp.Srt
namespace Lp.Sets
open PySem PySem.W PyProof.Rows
noncomputable def Dc (xs:Array Nat):Prop:=∀i j,i<j→j<xs.size→xs.getD i 0<xs.getD j 0
theorem getD_in {xs:Array Nat} {i:Nat} (d:Nat) (h:i<xs.size):xs.getD i d=xs.getD i 0:=by simp[h]
noncomputable def Gk (xs:Array Nat) (j p:Nat):Prop:=p≤xs.size∧(∀i,i<p→xs.getD i 0<j)∧∀i,p≤i→i<xs.size→j≤xs.getD i 0
theorem l5 {xs:Array Nat} {j:Nat} (hr:Dc xs):∀(f lo hi:Nat),hi-lo≤f→lo≤hi→hi≤xs.size→(∀i,i<lo→xs.getD i 0<j)→(∀i,hi≤i→i<xs.size→j≤xs.getD i 0)→Gk xs j (SetTable.below.go xs j f lo hi)
 | 0,lo,hi,h1,h2,h3,ha,hb=>by
  have e:lo=hi:=by lia
  subst e
  exact⟨h3,ha,hb⟩
 | f+1,lo,hi,h1,h2,h3,ha,hb=>by
  unfold SetTable.below.go
  by_cases hlt:lo<hi
  ·rw[if_pos hlt]
   dsimp only
   have hm:(lo+hi) / 2<xs.size:=by lia
   rw[getD_in j hm]
   by_cases hc:xs.getD ((lo+hi) / 2) 0<j
   ·rw[if_pos hc]
    refine l5 hr f _ hi (by lia) (by lia) h3 (fun i hi'=>?_) hb
    by_cases e:i=(lo+hi) / 2
    ·rw[e];exact hc
    ·have:=hr i ((lo+hi) / 2) (by lia) hm
     lia
   ·rw[if_neg hc]
    refine l5 hr f lo _ (by lia) (by lia) (by lia) ha fun i hi' hs=>?_
    by_cases e:i=(lo+hi) / 2
    ·rw[e];lia
    ·have:=hr ((lo+hi) / 2) i (by lia) hs
     lia
  ·rw[if_neg hlt]
   have e:lo=hi:=by lia
   subst e
   exact⟨h3,ha,hb⟩
theorem jq {xs:Array Nat} (hr:Dc xs) (j:Nat):Gk xs j (SetTable.below xs j):=l5 hr xs.size 0 xs.size (by lia) (by lia) (by lia) (fun i h=>absurd h (by lia)) fun i h h'=>absurd h' (by lia)
theorem l6 {α:Type} (xs:Array α) (p:Nat) (x:α):(SetTable.insertAt xs p x).toList=xs.toList.take p++x::xs.toList.drop p:=by
 unfold SetTable.insertAt
 simp[Array.toList_extract,DH]
theorem gy {xs:Array Nat}:Dc xs↔xs.toList.Pairwise (· < ·):=by
 rw[List.pairwise_iff_getElem]
 constructor
 ·intro h i j hi hj hij
  have h':=h i j hij (by simpa using hj)
  have e1:i<xs.size:=by simpa using hi
  have e2:j<xs.size:=by simpa using hj
  simpa[e1,e2]using h'
 ·intro h i j hij hj
  have:=h i j (by simp;lia) (by simpa using hj) hij
  have e1:i<xs.size:=by lia
  simpa[e1,hj]using this
theorem qm {xs:Array Nat} {j:Nat} (hr:Dc xs) (hn:xs[SetTable.below xs j]?≠some j):Dc (SetTable.insertAt xs (SetTable.below xs j) j):=by
 obtain⟨h1,h2,h3⟩:=jq hr j
 have hr':=gy.mp hr
 generalize SetTable.below xs j=p at *
 rw[gy,l6,List.pairwise_append]
 have hd:∀b∈xs.toList.drop p,j<b:=by
  intro b hb
  obtain⟨i,hi,e⟩:=ET.mp hb
  rw[List.getElem_drop]at e
  have hs:p+i<xs.size:=by simp at hi;lia
  have g:=h3 (p+i) (by lia) hs
  have e':xs.getD (p+i) 0=b:=by simp[hs];simpa using e
  rw[e']at g
  by_cases h0:j=b
  ·exfalso
   subst h0
   have hp:xs[p]? = some (xs.getD p 0):=by
    have:p<xs.size:=by lia
    simp[this]
   have hjp:j≤xs.getD p 0:=h3 p (AL _) (by lia)
   have hpj:xs.getD p 0≤j:=by
    by_cases hi0:i=0
    ·subst hi0;rw[←e'];exact AL _
    ·have:=hr p (p+i) (by lia) hs
     lia
   exact hn (by rw[hp];congr 1;lia)
  ·lia
 refine⟨hr'.sublist (List.take_sublist _ _),AS.mpr ⟨hd,hr'.sublist (List.drop_sublist _ _)⟩,?_⟩
 intro a ha b hb
 have haj:a<j:=by
  obtain⟨i,hi,e⟩:=ET.mp ha
  rw[List.getElem_take]at e
  have hs:i<xs.size:=by simp at hi;lia
  have g:=h2 i (by simp at hi;lia)
  have e':xs.getD i 0=a:=by simp[hs];simpa using e
  lia
 rcases AJ.mp hb with rfl | hb
 ·exact haj
 ·have:=hd b hb
  lia
theorem uf (n:Nat):Dc (Array.range n):=by
 rw[gy]
 simpa using GJ
structure Tidy (t:SetTable) (l:Bool):Prop where
 rose:Dc t.place
 none:t.dummies=#[]
 led:t.led=l
theorem has_none (j:Nat):SetTable.has #[] j=false:=rfl
theorem kj {t:SetTable} {l:Bool} (h:Tidy t l) {k:Int}:∀(f:Nat) (p:SetTable.Probe),p.dummy=none→∀{j d},SetTable.probe.go t (fun _=>k+1) k f p=some (.empty j d)→d=none∧t.place[SetTable.below t.place j]?≠some j
 | 0,p,_,j,d,e=>by simp[SetTable.probe.go]at e
 | f+1,p,hp,j,d,e=>by
  unfold SetTable.probe.go at e
  have hs:t.slot p.j=if t.place[SetTable.below t.place p.j]?==some p.j then .live (SetTable.below t.place p.j)else .empty:=by
   unfold SetTable.slot
   rw[h.none]
   simp only[has_none,AQ,if_false]
  rw[hs]at e
  by_cases hc:(t.place[SetTable.below t.place p.j]?==some p.j)=true
  ·rw[if_pos hc]at e
   dsimp only at e
   have hne:(k+1==k)=false:=by simp;lia
   rw[hne]at e
   refine kj h f (t.advance p) ?_ e
   unfold SetTable.advance
   split
   ·exact hp
   ·exact hp
  ·rw[if_neg hc]at e
   injection e with e
   injection e with e1 e2
   subst e1
   refine⟨by rw[←e2,hp],fun hx=>hc (by rw[hx];simp)⟩
theorem de {t:SetTable} {l:Bool} (h:Tidy t l) (n:Nat):Tidy (t.standIn n) l:=⟨uf n,rfl,h.led⟩
theorem Dd {t:SetTable} {l:Bool} (h:Tidy t l) (n:Nat):Tidy (t.orStandIn n) l:=by
 unfold SetTable.orStandIn
 split
 ·exact h
 ·exact de h n
theorem qq {t:SetTable} {l:Bool} (h:Tidy t l) (es:Array (Int×Value)) (k:Int) (x:Value):Tidy (layNew t es k x).2.1 l:=by
 unfold layNew
 cases e:t.freeSlot k with
 | none=>exact de h _
 | some z =>
  obtain⟨sl,wd⟩:=z
  dsimp only
  refine Dd ?_ _
  unfold SetTable.freeSlot at e
  have hr:t.place[SetTable.below t.place sl]?≠some sl:=by
   split at e
   ·rename_i j d em
    obtain⟨rfl,q⟩:=kj h _ _ rfl em
    simp at e
    rw[←e.1];exact q
   ·simp at e
  refine⟨qm h.rose hr,?_,h.led⟩
  show(if SetTable.has t.dummies sl=true then _ else t.dummies)=#[]
  rw[h.none,has_none];rfl
theorem l7 {t:SetTable} {l:Bool} (h:Tidy t l) (es:Array (Int×Value)) (n:Nat):Tidy (relayAll t es n).2.1 l:=by
 unfold relayAll
 split
 ·rename_i t' order e
  dsimp only
  split
  ·dsimp only
   unfold SetTable.relaid SetTable.laid at e
   simp only[Option.bind_eq_bind,Option.bind_eq_some_iff]at e
   obtain⟨owner,_,e⟩:=e
   simp only[Option.pure_def,BC,ES]at e
   obtain⟨rfl,_⟩:=e
   refine⟨?_,rfl,h.led⟩
   rw[gy]
   dsimp only
   rw[List.pairwise_map]
   refine List.Pairwise.filterMap _ (R:=(· < ·)) ?_ GJ
   intro a a' hlt b hb b' hb'
   simp only[Option.mem_def,DG]at hb hb'
   obtain⟨_,_,rfl⟩:=hb
   obtain⟨_,_,rfl⟩:=hb'
   exact hlt
  ·exact de h _
 ·exact de h _
theorem ug (l:Bool):Tidy (.fresh 0 0 l) l:=⟨fun i j _ h=>absurd h (by simp[SetTable.fresh]),rfl,rfl⟩
end Lp.Sets
namespace Lp.Sets
open PySem PySem.W PyProof.Rows PySem.Calls
structure Holds (prog:Program) (w:World) (o:Obj) (es:Array (Int×Value)) (ep:Nat) (t:SetTable) (σ:List Int) (l:Bool):Prop where
 set:o.ExactSet
 data:o.data=.set es ep t
 tidy:Tidy t l
 fits:t.fits es.size=true
 few:es.size<scanBound
 elems:ElemsOf (intKind prog w) es.toList
 vals:∃vs,(es.toList.map (·.2)).Perm vs∧IntsAre vs σ
noncomputable def qr (prog:Program) (w:World) (h:Heap) (a:Addr) (σ:List Int) (l:Bool):Prop:=∃o es ep t,h.get? a=some o∧Holds prog w o es ep t σ l
theorem l8:∀{vs:List Value} {ns:List Int},IntsAre vs ns→vs.length=ns.length
 | _,_,.nil=>rfl
 | _,_,.cons n t r=>by simp[l8 r]
theorem ints_snoc {n:Int} {t:Tok}:∀{vs:List Value} {ns:List Int},IntsAre vs ns→IntsAre (vs++[.int n t]) (ns++[n])
 | _,_,.nil=>.cons n t .nil
 | _,_,.cons m u r=>.cons m u (ints_snoc r)
theorem l9:∀{vs:List Value} {ns:List Int},IntsAre vs ns→∀k:Int,k∈ns↔∃v∈vs,Value.isInt k v=true
 | _,_,.nil,k=>by simp
 | _,_,.cons m u r,k=>by
  rw[AJ,l9 r k]
  constructor
  ·rintro(rfl | ⟨v,hv,e⟩)
   ·exact⟨_,AM,by simp[Value.isInt]⟩
   ·exact⟨v,AN _ hv,e⟩
  ·rintro⟨v,hv,e⟩
   rcases AJ.mp hv with rfl | hv
   ·left;simp[Value.isInt]at e;exact e.symm
   ·exact .inr ⟨v,hv,e⟩
section
variable {prog : Program} {w : World} {A : Around} {E : Value → Shared → Prop} {s : Shared}
theorem Holds.len {o:Obj} {es:Array (Int×Value)} {ep:Nat} {t:SetTable} {σ:List Int} {l:Bool} (H:Holds prog w o es ep t σ l):es.size=σ.length:=by
 obtain⟨vs,p,i⟩:=H.vals
 rw[←l8 i,←p.length_eq];simp
theorem Holds.found {o:Obj} {es:Array (Int×Value)} {ep:Nat} {t:SetTable} {σ:List Int} {l:Bool} (H:Holds prog w o es ep t σ l) (k:Int) :
  (es.toList.findIdx? fun e=>(intKind prog w).is k e.2).isSome=σ.any (·==k):=by
 obtain⟨vs,p,i⟩:=H.vals
 rw[Bool.eq_iff_iff,List.findIdx?_isSome,Gt,Gt]
 constructor
 ·rintro⟨e,he,q⟩
  exact⟨k,(l9 i k).mpr ⟨e.2,p.mem_iff.mp (List.mem_map_of_mem he),q⟩,by simp⟩
 ·rintro⟨k',hk,q⟩
  have:k'=k:=by simpa using q
  subst this
  obtain⟨v,hv,q⟩:=(l9 i k').mp hk
  obtain⟨e,he,rfl⟩:=GI.mp (p.mem_iff.mpr hv)
  exact⟨e,he,q⟩
theorem Holds.stored {h:Heap} {a:Addr} {o:Obj} {es es':Array (Int×Value)} {ep:Nat} {t t':SetTable} {σ σ':List Int} {l:Bool} (q:h.get? a=some o) (H:Holds prog w o es ep t σ l)
  (T:Tidy t' l) (F:t'.fits es'.size=true) (B:es'.size<scanBound) (L:ElemsOf (intKind prog w) es'.toList) (V:∃vs,(es'.toList.map (·.2)).Perm vs∧IntsAre vs σ') :
  ∃o',(h.update a (Obj.putSet es' t')).get? a=some o'∧Holds prog w o' es' (ep+1) t' σ' l:=by
 refine⟨{o with data:=.set es' (ep+1) t'},?_,⟨H.set,rfl,T,F,B,L,V⟩⟩
 have q':=DP (Obj.putSet es' t') q (by rw[putSet_of es' t' H.data];rfl)
 rwa [putSet_of es' t' H.data]at q'
theorem sg {g:Bool→Sem Unit} (hg:∀(b:Bool) (s₁:Shared) (Q':Unit→Shared→Prop),Q' () s₁→wpAny (model prog w) A (g b) Q' E s₁) {a:Addr} {o:Obj} {es es':Array (Int×Value)} {ep:Nat} {t t':SetTable} {σ σ':List Int} {l wd:Bool} {R:Option Bool→Shared→Prop}
  (q:s.heap.get? a=some o) (H:Holds prog w o es ep t σ l) (T:Tidy t' l) (F:t'.fits es'.size=true) (B:es'.size<scanBound) (L:ElemsOf (intKind prog w) es'.toList) (V:∃vs,(es'.toList.map (·.2)).Perm vs∧IntsAre vs σ')
  (h:∀h',Heap.SameBut a s.heap h'→qr prog w h' a σ' l→R (some true) {s with heap:=h'}) :
  wpAny (model prog w) A (do
   storeSet a es' t'
   if(!wd&&t'.tooFull)=true then do
    g (relayAll t' es' (SetTable.grown es'.size)).2.2
    storeSet a (relayAll t' es' (SetTable.grown es'.size)).1 (relayAll t' es' (SetTable.grown es'.size)).2.1
    pure (some true)
   else pure (some true)) R E s:=by
 refine AA (wpAny_storeSet_of q H.data ?_ (fits_of_scanBound B))
 obtain⟨o1,q1,H1⟩:=H.stored q T F B L V
 have b1:=DU s.heap a (Obj.putSet es' t')
 by_cases hc:(!wd&&t'.tooFull)=true
 ·rw[if_pos hc]
  have P2:=relayAll_perm t' es' (SetTable.grown es'.size)
  have F2:=relayAll_fits t' es' (SetTable.grown es'.size)
  have T2:=l7 T es' (SetTable.grown es'.size)
  generalize relayAll t' es' (SetTable.grown es'.size)=z at P2 F2 T2 ⊢
  obtain⟨es2,t2,g2⟩:=z
  dsimp only at P2 F2 T2 ⊢
  have B2:es2.size<scanBound:=by
   have e:=P2.length_eq
   simp only[BM]at e
   lia
  obtain⟨vs,p,i⟩:=V
  obtain⟨o2,q2,H2⟩:=H1.stored q1 T2 F2 B2 (L.perm P2) ⟨vs,(P2.map _).trans p,i⟩
  exact AA (hg _ _ _ (AA (wpAny_storeSet_of q1 H1.data (AD (h _ (b1.trans (DU _ a _)) ⟨o2,_,_,_,q2,H2⟩)) (fits_of_scanBound B2))))
 ·rw[if_neg hc]
  exact AD (h _ b1 ⟨o1,_,_,_,q1,H1⟩)
theorem Al {a:Addr} {σ:List Int} {l:Bool} {k:Int} {t:Tok} {Q:Bool→Shared→Prop} (hS:qr prog w s.heap a σ l) (room:σ.length+1<scanBound)
  (h:∀b h',Heap.SameBut a s.heap h'→qr prog w h' a (step_dedup σ k) l→Q b {s with heap:=h'}):wpAny (model prog w) A (setAddHashed a (.int k t) ((intKind prog w).hash k)) Q E s:=by
 obtain⟨o,es,ep,tb,q,H⟩:=hS
 have hlen:=H.len
 unfold setAddHashed setAddHashedIn
 refine CP (AA (CZ q H.data H.fits ?_))
 dsimp only
 rw[byScan_of rfl H.few H.elems,if_pos rfl]
 refine AA ?_
 unfold setAddByScan
 refine AA (EO (AA (wpAny_setScan_of (intKind_is _ _ _ _) q H.data H.fits H.elems ?_)))
 have hf:=H.found k
 cases hr:List.findIdx? (fun e=>(intKind prog w).is k e.2) es.toList with
 | some j =>
  rw[hr]at hf
  dsimp only
  refine AD (AD (h _ s.heap (Heap.SameBut.refl a s.heap) ?_))
  have e:step_dedup σ k=σ:=by unfold step_dedup;rw[if_pos];exact hf.symm
  rw[e]
  exact⟨o,es,ep,tb,q,H⟩
 | none =>
  rw[hr]at hf
  dsimp only
  have e:step_dedup σ k=σ++[k]:=by
   unfold step_dedup;rw[if_neg]
   rw[←hf];simp
  have P1:=layNew_perm tb es ((intKind prog w).hash k) (.int k t)
  have F1:=layNew_fits tb es ((intKind prog w).hash k) (.int k t)
  have T1:=qq H.tidy es ((intKind prog w).hash k) (.int k t)
  generalize layNew tb es ((intKind prog w).hash k) (.int k t)=z at P1 F1 T1 ⊢
  obtain⟨es1,t1,wd,gave⟩:=z
  dsimp only at P1 F1 T1 ⊢
  rw[Array.toList_push]at P1
  have B1:es1.size<scanBound:=by
   have e:=P1.length_eq
   simp only[BM,CH,GQ]at e
   lia
  have V1:∃vs,(es1.toList.map (·.2)).Perm vs∧IntsAre vs (step_dedup σ k):=by
   obtain⟨vs,p,i⟩:=H.vals
   refine⟨vs++[.int k t],(P1.map _).trans ?_,by rw[e];exact ints_snoc i⟩
   rw[ED]
   exact p.append_right _
  have L1:=(H.elems.push (intKind_is prog w k t) rfl).perm P1
  refine AA ?_
  have gw:∀(b:Bool) (s₁:Shared) (Q':Unit→Shared→Prop),Q' () s₁→wpAny (model prog w) A (match b with | true=>rule "set.scan.the-table-gave-way" | false=>pure ()) Q' E s₁:=by
   intro b s₁ Q' hq
   cases b
   ·exact AD hq
   ·exact EO hq
  refine gw gave _ _ ?_
  split
  ·refine AA (EH (hashByValue_scannable 8 rfl) ?_)
   refine AA (m:=pure _) (AD ?_)
   exact sg gw q H T1 F1 B1 L1 V1 fun h' hb hh=>AD (h _ h' hb hh)
  ·refine AA (AD ?_)
   exact sg gw q H T1 F1 B1 L1 V1 fun h' hb hh=>AD (h _ h' hb hh)
end
end Lp.Sets
namespace Lp.Sets
open PySem PySem.W PyProof.Rows PySem.Calls
theorem qr.at {prog:Program} {w:World} {h h':Heap} {a:Addr} {σ:List Int} {l:Bool} (H:qr prog w h a σ l) (k:∀o,h.get? a=some o→h'.get? a=some o):qr prog w h' a σ l:=by
 obtain⟨o,es,ep,t,q,z⟩:=H
 exact⟨o,es,ep,t,k o q,z⟩
section
variable {prog : Program} {w : World} {A : Around} {R : Result → Shared → Prop} {I : Addr} {fp wr : List Addr} {G : Array GenState → Array GenState → Prop} {n : Nat} {P : Nat → Value → Prop} {St : Nat → Shared → Prop} {l : Bool}
theorem ya (W:WalksS prog w A.in1 I fp wr G n P St) (a:Addr) (af:a∉fp) (val:Nat→Int) (hv:∀i v,P i v→∃t,v=.int (val i) t) (few:n+1<scanBound) :
  ∀(d i:Nat) (s:Shared),n-i=d→i≤n→St i s→qr prog w s.heap a (firstMet val i) l→(∀s',Moved (a::wr) G s s'→qr prog w s'.heap a (firstMet val n) l→R (.ok (.ret .none)) s') →
   codeAny (model prog w) A (.builtin "set.update.loop" ⟨[.ref a,.ref I],[]⟩) R s:=by
 have aw:a∉wr:=fun z=>af (W.sub _ z)
 intro d
 induction d with
 | zero =>
  intro i s hd hi st H fin
  have e:i=n:=by lia
  subst e
  refine BW F.entry_set_update_loop ?_
  rw[BQ EI]
  show wpAny (model prog w) A.in1 (pyNext (.ref I)>>=_) _ _ s
  refine AA (W.done s _ _ st fun s' m=>?_)
  show wpAny (model prog w) A.in1 (ret Value.none) _ _ s'
  exact AD (fin s' (m.mono fun b z=>AN _ z) (H.at fun o z=>m.heap a o aw z))
 | succ d ih =>
  intro i s hd hi st H fin
  refine BW F.entry_set_update_loop ?_
  rw[BQ EI]
  show wpAny (model prog w) A.in1 (pyNext (.ref I)>>=_) _ _ s
  refine AA (W.item i s _ _ (by lia) st fun v s' p st' m=>?_)
  obtain⟨t,rfl⟩:=hv i v p
  have H':qr prog w s'.heap a (firstMet val i) l:=H.at fun o z=>m.heap a o aw z
  show wpAny (model prog w) A.in1 (holding [Value.int (val i) t] (setAdd a (.int (val i) t))>>=_) _ _ s'
  unfold setAdd
  refine AA (CP (CP (AA ((intKind prog w).pyHash (k:=val i) (intKind_is ..) ?_))))
  have:=firstMet_length_le val i
  refine Al (s:={s' with toks:=s'.toks+1}) H' (by lia) fun b h' sb H2=>?_
  rw[←firstMet_succ]at H2
  refine AD ⟨DN EI _,ih (i+1) _ (by lia) (by lia) (W.frame _ s' _ _ st' (EU _) fun b hb o z=>?_) H2 fun s2 m2 H3=>?_⟩
  ·rw[sb.2 b fun e=>af (e ▸ hb)];exact z
  ·refine fin s2 (Moved.trans W.gtrans ((m.mono fun b z=>AN _ z).then_heap (EU _) fun b o hb z=>?_) m2) H3
   rw[sb.2 b fun e=>hb (e ▸ AM)];exact z
end
section
variable {prog : Program} {w : World} {A : Around} {E : Value → Shared → Prop} {s : Shared}
noncomputable abbrev gz (w:World):Bool:=!w.params.followText "set-order"
noncomputable abbrev dg (w:World):Obj:={cls:=.type "set",dict:=none,data:=.set #[] 0 (.fresh 0 0 (gz w))}
theorem uh {h:Heap} {a:Addr} (q:h.get? a=some (dg w)):qr prog w h a [] (gz w) :=
 ⟨_,#[],0,_,q,⟨⟨rfl,rfl,rfl⟩,rfl,ug _,rfl,by decide,fun e z=>by simp at z,[],.refl _,.nil⟩⟩
theorem De (x:Value) {Q₁:Value→Shared→Prop} (h:Q₁ (.ref s.heap.objs.size) {s with heap:=s.heap.push (dg w)}) :
  codeAny (model prog w) A (.call (.builtin "set.__new__") ⟨[.type "set",x],[]⟩) (wants Q₁ E) s:=by
 refine EY ?_
 show wpAny (model prog w) A.in1 (do checkBuiltinCall "set.__new__" ⟨[.type "set",x],[]⟩;again (.builtin "set.__new__" ⟨[.type "set",x],[]⟩)) _ _ s
 refine AA (EH (PySem.F.newCall_set_1 x) (AD ⟨DN GS _,BW PySem.F.entry_set_new ?_⟩))
 rw[BQ GS]
 unfold Builtin.«set.__new__» Builtin.Frozenset.newClass
 have e1:=sub_set_self
 obtain⟨hp,g,d,tk,os⟩:=s
 dsimp only
 wp_walk
 refine DB (AD ?_)
 dsimp only
 simp only[newObj]
 exact AA (wpAny_alloc (AD (AD h)))
end
end Lp.Sets
namespace Lp.Sets
open PySem PySem.W PyProof.Rows PySem.Calls
theorem Dg {T:String} (e:T="list"∨T="tuple"):isSubtype (.type T) (.type "set")=pure false∧isSubtype (.type T) (.type "frozenset")=pure false:=by
 rcases e with rfl | rfl
 ·exact⟨PySem.F.sub_list_set,PySem.F.sub_list_frozenset⟩
 ·constructor
  ·rw[DC];kernel_rfl
  ·rw[DC];kernel_rfl
noncomputable def Gm:Bool→String
 | true=>"list"
 | false=>"tuple"
theorem Gn {b:Bool} {h:Heap} {x:Addr} {items:Array Value} (q:SQ b h x items):∃o,h.get? x=some o∧o.cls=.type (Gm b):=by
 cases b
 ·obtain⟨o,e,c,_⟩:=q;exact⟨o,e,c⟩
 ·obtain⟨o,e,c,_⟩:=q;exact⟨o,e,c⟩
section
variable {prog : Program} {w : World} {A : Around} {E : Value → Shared → Prop} {s : Shared}
theorem sh {b:Bool} (hh:A.handled=none) (I x:Addr) (ne:x≠I) (items:Array Value):Walks prog w A I [I,x] [I] items.size (fun i v=>items[i]? = some v) (fun i h=>SI b h I x i∧SQ b h x items):=by
 cases b
 ·exact Walks.tuple hh I x ne items
 ·exact Walks.list hh I x ne items
theorem Am {b:Bool} {a x:Addr} {items:Array Value} {ns:List Int} {Q:Shared→Prop} {P:PySem.Fin→Shared→Prop} (hh:A.handled=none) (hL:SQ b s.heap x items) (hi:IntsAre items.toList ns) (few:items.size+1<scanBound)
  (q:s.heap.get? a=some (dg w)) (ne:a≠x)
  (fin:∀h' tk,qr prog w h' a (firstMet (fun i=>ns.getD i 0) items.size) (gz w)→(∀c o,c≠a→s.heap.get? c=some o→h'.get? c=some o)→P (.done (.ret .none)) {s with heap:=h',toks:=tk}) :
  wpAny (model prog w) A (Builtin.«set.__init__» ⟨[.ref a,.ref x],[]⟩) P E s:=by
 obtain⟨ox,qx,cx⟩:=Gn hL
 obtain⟨n1,n2⟩:=Dg (T:=Gm b) (by cases b<;>simp[Gm])
 have hT:s.TypeIs (.ref x) (Gm b):=⟨ox,qx,cx⟩
 have nd:(Value.type (Gm b)==Value.type "dict")=false:=by cases b<;>decide
 have hS:s.TypeIs (.ref a) "set":=⟨_,q,rfl⟩
 unfold Builtin.«set.__init__» noKeywords Builtin.Frozenset.updateFrom
 generalize hPI:pyIter=PI
 obtain⟨hp,g,d,tk,os⟩:=s
 wp_walk
 subst hPI
 refine l4 hL (AA (wpAny_runValue ?_))
 have lx:x<hp.objs.size:=SQ.lt hL
 have la:a<hp.objs.size:=AF q
 refine ya ((sh (b:=b) (A:=A.in1) (show A.in1.handled=none from hh) hp.objs.size x (AI lx) items).toS) a (l:=gz w) ?_ (fun i=>ns.getD i 0) (fun i v z=>IntsAre.int_at hi i v (by rw[GU];exact z)) few items.size 0 _ (by lia) (FS _)
  ⟨?_,SQ.push hL _⟩ (uh (AB _ q)) fun s' m H=>?_
 ·simp only[AJ,BD,or_false,not_or]
  exact⟨AI la,ne⟩
 ·cases b
  ·exact⟨_,AG _ rfl,rfl,rfl⟩
  ·exact⟨_,AG _ rfl,rfl,rfl⟩
 ·rw[GW m]
  refine AD (AD (fin s'.heap s'.toks H fun c o hc z=>m.heap c o ?_ (AB _ z)))
  simp only[AJ,BD,or_false,not_or]
  exact⟨hc,AI (AF z)⟩
theorem An {b:Bool} {x:Addr} {items:Array Value} {ns:List Int} {Q:Value→Shared→Prop} (hh:A.handled=none) (hL:SQ b s.heap x items) (hi:IntsAre items.toList ns) (few:items.size+1<scanBound)
  (h:∀h' tk,qr prog w h' s.heap.objs.size (firstMet (fun i=>ns.getD i 0) items.size) (gz w)→(∀c o,s.heap.get? c=some o→h'.get? c=some o)→Q (.ref s.heap.objs.size) {s with heap:=h',toks:=tk}) :
  wpAny (model prog w) A (call (.type "set") [.ref x]) Q E s:=by
 obtain⟨c,tl,hmro⟩:=BX.mro
 have hm:=BX.made
 have hs:=BX.sub
 have hn:=BX.notType
 have hcc:=BX.canCreate
 have hct:=PySem.F.typeCall_set_1 (.ref x)
 refine wpAny_call (EY ?_)
 show wpAny (model prog w) _ (callAny (.type "set") _) _ _ _
 refine AD ⟨Code.quiet_builtin _ (by decide +kernel),BW GB ?_⟩
 rw[Around.under_plain (weight_type_call_type "set" [.ref x] []) rfl]
 repeat (any_goals (first | assumption | wp_step))
 refine DE (De (w:=w) (.ref x) (E:=E) (Q₁:=fun obj s₁=>obj=.ref s.heap.objs.size∧s₁={s with heap:=s.heap.push (dg w)}) ⟨rfl,rfl⟩) fun r s₁ hr=>?_
 cases r with
 | error e=>exact hr
 | ok fl =>
  cases fl with
  | ret obj =>
   obtain⟨rfl,rfl⟩:=hr
   have q:(s.heap.push (dg w)).get? s.heap.objs.size=some (dg w):=AG _ rfl
   have hT:Shared.TypeIs {s with heap:=s.heap.push (dg w)} (.ref s.heap.objs.size) "set":=⟨_,q,rfl⟩
   have hli:=BX.init.lookup
   have hbi:=BX.init.bind (.ref s.heap.objs.size)
   repeat (any_goals (first | assumption | wp_step))
   refine DE (codeAny_call_builtin (R:=wants (fun r s₂=>r=.none∧Q (.ref s.heap.objs.size) s₂) E) BX.init.plain PySem.F.entry_set_init (check_set_init_1 hT ?_)) fun r₂ s₂ z=>?_
   ·refine Am (Q:=fun _=>True) (b:=b) (s:={s with heap:=s.heap.push (dg w)}) (by simpa using hh) (SQ.push hL _) hi few q (CN (SQ.lt hL)) fun h' tk H k=>?_
    exact⟨rfl,h h' tk H fun c o e=>k c o (AI (AF e)) (AB _ e)⟩
   ·cases r₂ with
    | error e=>exact z
    | ok fl₂ =>
     cases fl₂ with
     | ret r =>
      obtain⟨rfl,z⟩:=z
      repeat (any_goals (first | assumption | wp_step))
     | _=>exact z
  | _=>exact hr
end
end Lp.Sets
namespace Lp.Sets
open PySem PySem.W PyProof.Rows PySem.Calls
section
theorem ic {α:Type}:∀(l:List α) (i:Nat) (h:i<l.length),(l[i]::l.eraseIdx i).Perm l
 | x::xs,0,_=>.refl _
 | x::xs,i+1,h=>by
  have hi:i<xs.length:=by simpa using h
  have ih:=ic xs i hi
  show(xs[i]::x::xs.eraseIdx i).Perm (x::xs)
  exact(List.Perm.swap ..).trans (ih.cons x)
theorem yb {α:Type} (next:Nat→Nat):∀(f k:Nat) (left:List α) (out:Array α),left.length=f→(pickOrder.go next f k left out).toList.Perm (out.toList++left)
 | 0,k,left,out,h=>by
  have e:left=[]:=EG.mp h
  subst e
  simp[pickOrder.go]
 | f+1,k,left,out,h=>by
  unfold pickOrder.go
  have hl:next k % left.length<left.length:=Nat.mod_lt _ (by lia)
  rw[AC hl]
  dsimp only
  refine(yb next f (k+1) _ _ (by rw[List.length_eraseIdx,if_pos hl];lia)).trans ?_
  rw[Array.toList_push,List.append_assoc]
  refine List.Perm.append_left _ ?_
  show(left[next k % left.length]::left.eraseIdx (next k % left.length)).Perm left
  exact ic _ _ hl
theorem jr {α:Type} (next:Nat→Nat) (xs:Array α):(pickOrder next xs).toList.Perm xs.toList:=by
 have:=yb next xs.size 0 xs.toList #[] (by simp)
 simpa[pickOrder]using this
end
section
variable {prog : Program} {w : World} {A : Around} {E : Value → Shared → Prop} {s : Shared}
theorem oq {α:Type}:∀(n:Nat) (xs:List α) (s:Shared) {Q:List α→Shared→Prop},xs.length=n→(∀ys d,ys.Perm xs→Q ys {s with drawn:=d})→wpAny (model prog w) A (drawOrder n xs) Q E s
 | 0,xs,s,Q,hn,h=>by
  have e:xs=[]:=EG.mp hn
  subst e
  unfold drawOrder
  exact AD (h [] s.drawn (.refl _))
 | n+1,[],s,Q,hn,h=>by simp at hn
 | n+1,x::xs,s,Q,hn,h=>by
  unfold drawOrder
  refine AA ?_
  have hc:∀(Q':Nat→Shared→Prop),(∀i,i<(x::xs).length→∀d,Q' i {s with drawn:=d})→wpAny (model prog w) A (choose .order (x::xs).length) Q' E s:=fun Q' hq Γ p _=>⟨by simp,hq _ (Nat.mod_lt _ (by simp)) _⟩
  refine hc _ fun i hi d=>?_
  rw[AC hi]
  dsimp only
  refine AA (oq n _ _ (by rw[List.length_eraseIdx,if_pos hi];simp at hn ⊢;lia) fun ys d' p=>?_)
  exact AD (h _ d' ((p.cons _).trans (ic _ _ hi)))
theorem slot_next:Slot "set_iterator" "__next__" "set_iterator.__next__":=Slot.of (owner:="set_iterator") (n:="__next__")
 (by rw[EZ,DQ];kernel_rfl)
 (by decide +kernel)
 (by decide +kernel) (by decide +kernel)
 (by first | exact .inl (by decide +kernel) | exact .inr (by decide +kernel))
 (by rw[DC];kernel_rfl)
theorem entry_next:entryFor table "set_iterator.__next__"=some Builtin.«set_iterator.__next__»:=GC (by kernel_rfl)
theorem ui:entryFor table "set.__iter__"=some Builtin.«frozenset.__iter__»:=entryFor_alias (id':="frozenset.__iter__") (by kernel_rfl) rfl (by decide +kernel) (by kernel_rfl)
theorem args_next (a:Value):argsOk "set_iterator.__next__" ⟨[a],[]⟩:=by
 unfold argsOk
 kernel_rfl
end
end Lp.Sets
namespace Lp.Sets
open PySem PySem.W PyProof.Rows PySem.Calls
noncomputable abbrev iu (first:Value) (i:Nat) (a:Addr) (n ep:Nat):Obj:={cls:=.type "set_iterator",dict:=none,data:=.fields #[first,rawInt i,.ref a,rawInt n,rawInt ep],slots:=#[]}
section
variable {prog : Program} {w : World} {A : Around} {E : Value → Shared → Prop} {s : Shared} {I a : Addr} {first : Value} {i n slot : Nat} {o : Obj} {es : Array (Int × Value)} {ep : Nat} {t : SetTable} {σ : List Int} {l : Bool}
theorem yc {x:Value} {nx:Nat} {Q:Option Value→Shared→Prop} (hI:s.heap.get? I=some (iu (rawInt slot) i a n ep)) (q:s.heap.get? a=some o) (H:Holds prog w o es ep t σ l) (hn:es.size=n)
  (hN:∀(A':Around) (E':Value→Shared→Prop) (Q':Option (Value×Nat)→Shared→Prop),Q' (some (x,nx)) s→wpAny (model prog w) A' (setNext a slot i ep) Q' E' s)
  (hQ:∀h',h'.get? I=some (iu (rawInt nx) (i+1) a n ep)→Heap.SameBut I s.heap h'→Q (some x) {s with heap:=h'}):wpAny (model prog w) A (pyNext (.ref I)) Q E s:=by
 have hT:s.TypeIs (.ref I) "set_iterator":=⟨_,hI,rfl⟩
 unfold pyNext
 refine AA (DM (BA (name:=Str.ofString "__next__") hT slot_next (BK slot_next hT entry_next ?_ (args_next _))))
 unfold Builtin.«set_iterator.__next__»
 refine AA (m:=slotArgs _ _ _) (AD ?_)
 dsimp only
 refine AA (FK hI rfl ?_)
 dsimp only[rawInt]
 refine AA (Do q H.data H.fits ?_)
 rw[hn]
 simp only[bne_self_eq_false,AQ,if_false,BU]
 refine AA (hN _ _ _ ?_)
 dsimp only
 refine AA (BH hI (by simp) fun h1 q1 b1=>?_)
 refine AA (BH q1 (by simp) fun h2 q2 b2=>?_)
 exact AD ⟨_,rfl,AD (hQ h2 q2 (b1.trans b2))⟩
theorem yd {Q:Option Value→Shared→Prop} (hh:A.handled=none) (hI:s.heap.get? I=some (iu (rawInt slot) i a n ep)) (q:s.heap.get? a=some o) (H:Holds prog w o es ep t σ l) (hn:es.size=n)
  (hN:∀(A':Around) (E':Value→Shared→Prop) (Q':Option (Value×Nat)→Shared→Prop),Q' none s→wpAny (model prog w) A' (setNext a slot i ep) Q' E' s)
  (hQ:∀h',Heap.ExtBut I s.heap h'→Q none {s with heap:=h'}):wpAny (model prog w) A (pyNext (.ref I)) Q E s:=by
 have hT:s.TypeIs (.ref I) "set_iterator":=⟨_,hI,rfl⟩
 unfold pyNext
 refine AA (DM (BA (name:=Str.ofString "__next__") hT slot_next (BK slot_next hT entry_next ?_ (args_next _))))
 unfold Builtin.«set_iterator.__next__»
 refine AA (m:=slotArgs _ _ _) (AD ?_)
 dsimp only
 refine AA (FK hI rfl ?_)
 dsimp only[rawInt]
 refine AA (Do q H.data H.fits ?_)
 rw[hn]
 simp only[bne_self_eq_false,AQ,if_false,BU]
 refine AA (hN _ _ _ ?_)
 dsimp only
 refine AA (BH hI (by simp) fun h1 q1 b1=>AA ?_)
 simp only[newExc,newTuple]
 refine AA (BB (AA (m:=firstArgMember _ _) (EH (a:=Value.none) (by first | rfl | (simp only[firstArgMember];rfl)) (BB ?_ (by size_fits)))) (by size_fits))
 simp only[raiseNew]
 refine AA (wpAny_handled ?_)
 rw[show A.in1.handled=none from hh]
 refine AA (AD (wpAny_throw ?_))
 refine AA ?_
 refine ER (T:="StopIteration") (b:=true) ?_ isSubtype_stop ?_
 ·exact⟨_,AG _ rfl,rfl⟩
 exact AD (hQ _ ((b1.extBut.push _).push _))
theorem ou (q:s.heap.get? a=some o) (H:Holds prog w o es ep t σ l) (ht:w.params.followText "set-order"=true) {Q:Option (Value×Nat)→Shared→Prop}
  (h:Q (((pickOrder (w.params.setOrder a ep) es)[i]?).map fun e=>(e.2,slot)) s):wpAny (model prog w) A (setNext a slot i ep) Q E s:=by
 unfold setNext setsByText setWalk setsByText
 refine AA (CZ q H.data H.fits ?_)
 dsimp only
 refine AA (AA (DB (AD ?_)))
 show wpAny _ _ (if w.params.followText "set-order"=true then _ else _) _ _ _
 rw[if_pos ht]
 simp only[bne_self_eq_false,AQ,if_false]
 refine AA (AA (CZ q H.data H.fits ?_))
 dsimp only
 refine AA (AA (DB (AD ?_)))
 show wpAny _ _ (if w.params.followText "set-order"=true then _ else _) _ _ _
 rw[if_pos ht]
 refine AA (DB (AD ?_))
 exact AD h
theorem kl (q:s.heap.get? a=some o) (H:Holds prog w o es ep t σ (gz w)) (ht:w.params.followText "set-order"=false) (hp:(!t.plain&&decide (es.size > 1))=false) {Q:Option (Value×Nat)→Shared→Prop}
  (h:Q (match es[SetTable.below t.place slot]?,t.place[SetTable.below t.place slot]? with | some (_,x),some j=>some (x,j+1) | _,_=>none) s):wpAny (model prog w) A (setNext a slot i ep) Q E s:=by
 unfold setNext setsByText
 refine AA (CZ q H.data H.fits ?_)
 dsimp only
 refine AA (AA (DB (AD ?_)))
 show wpAny _ _ (if w.params.followText "set-order"=true then _ else _) _ _ _
 rw[ht,if_neg AW]
 show wpAny _ _ (if(!t.plain&&decide (es.size > 1))=true then _ else _) _ _ _
 rw[hp,if_neg AW]
 refine AA ?_
 show wpAny _ _ (if(!t.led&&!es.isEmpty)=true then _ else _) _ _ _
 have hl:t.led=true:=by rw[H.tidy.led];simp[gz,ht]
 rw[hl]
 exact AD (AD h)
end
end Lp.Sets
namespace Lp.Sets
open PySem PySem.W PyProof.Rows PySem.Calls
theorem slot_self:Slot "set_iterator" "__iter__" "set_iterator.__iter__":=Slot.of (owner:="set_iterator") (n:="__iter__")
 (by rw[EZ,DQ];kernel_rfl)
 (by decide +kernel)
 (by decide +kernel) (by decide +kernel)
 (by first | exact .inl (by decide +kernel) | exact .inr (by decide +kernel))
 (by rw[DC];kernel_rfl)
theorem entry_self:entryFor table "set_iterator.__iter__"=some Builtin.«dict_keyiterator.__iter__»:=entryFor_alias (id':="dict_keyiterator.__iter__") (by kernel_rfl) rfl (by decide +kernel) (by kernel_rfl)
theorem args_self (a:Value):argsOk "set_iterator.__iter__" ⟨[a],[]⟩:=by
 unfold argsOk
 kernel_rfl
section
variable {prog : Program} {w : World} {A : Around} {E : Value → Shared → Prop} {s : Shared} {I a : Addr} {first : Value} {i n slot : Nat} {o : Obj} {es : Array (Int × Value)} {ep : Nat} {t : SetTable} {σ : List Int} {l : Bool}
theorem qu {Q:Value→Shared→Prop} (hI:s.heap.get? I=some (iu first i a n ep)) (h:Q (.ref I) s):wpAny (model prog w) A (pyIter (.ref I)) Q E s:=by
 have hT:s.TypeIs (.ref I) "set_iterator":=⟨_,hI,rfl⟩
 refine wpAny_pyIter_slot hT slot_self (BK slot_self hT entry_self ?_ (args_self _))
 exact AD ⟨_,rfl,"set_iterator",_,hT,slot_next.lookup,h⟩
theorem Ao {T:Addr} {ps:Array Value} {j:Nat} {e:Int×Value} {Q:Option Value→Shared→Prop} (hI:s.heap.get? I=some (iu (.ref T) i a n ep)) (q:s.heap.get? a=some o) (H:Holds prog w o es ep t σ l) (hn:es.size=n)
  (hT:s.heap.IsTuple T ps) (hp:ps[i]? = some (rawInt j)) (he:es[j]? = some e)
  (hQ:∀h',h'.get? I=some (iu (.ref T) (i+1) a n ep)→Heap.SameBut I s.heap h'→Q (some e.2) {s with heap:=h'}):wpAny (model prog w) A (pyNext (.ref I)) Q E s:=by
 have hTy:s.TypeIs (.ref I) "set_iterator":=⟨_,hI,rfl⟩
 obtain⟨ot,qt,_,nt,dt⟩:=hT
 unfold pyNext
 refine AA (DM (BA (name:=Str.ofString "__next__") hTy slot_next (BK slot_next hTy entry_next ?_ (args_next _))))
 unfold Builtin.«set_iterator.__next__»
 refine AA (m:=slotArgs _ _ _) (AD ?_)
 dsimp only
 refine AA (FK hI rfl ?_)
 dsimp only[rawInt]
 refine AA (Do q H.data H.fits ?_)
 rw[hn]
 simp only[bne_self_eq_false,AQ,if_false,BU]
 refine AA (CC qt dt ?_)
 dsimp only
 rw[hp]
 dsimp only[rawInt]
 unfold setNextDrawn
 refine AA (AA (CZ q H.data H.fits ?_))
 simp only[BU,bne_self_eq_false,AQ,if_false]
 rw[he]
 refine AD (AA (BH hI (by simp) fun h1 q1 b1=>?_))
 exact AD ⟨_,rfl,AD (hQ h1 q1 b1)⟩
theorem ov {T:Addr} {ps:Array Value} {Q:Option Value→Shared→Prop} (hh:A.handled=none) (hI:s.heap.get? I=some (iu (.ref T) i a n ep)) (q:s.heap.get? a=some o) (H:Holds prog w o es ep t σ l) (hn:es.size=n)
  (hT:s.heap.IsTuple T ps) (hp:ps[i]? = none) (hQ:∀h',Heap.ExtBut I s.heap h'→Q none {s with heap:=h'}):wpAny (model prog w) A (pyNext (.ref I)) Q E s:=by
 have hTy:s.TypeIs (.ref I) "set_iterator":=⟨_,hI,rfl⟩
 obtain⟨ot,qt,_,nt,dt⟩:=hT
 unfold pyNext
 refine AA (DM (BA (name:=Str.ofString "__next__") hTy slot_next (BK slot_next hTy entry_next ?_ (args_next _))))
 unfold Builtin.«set_iterator.__next__»
 refine AA (m:=slotArgs _ _ _) (AD ?_)
 dsimp only
 refine AA (FK hI rfl ?_)
 dsimp only[rawInt]
 refine AA (Do q H.data H.fits ?_)
 rw[hn]
 simp only[bne_self_eq_false,AQ,if_false,BU]
 refine AA (CC qt dt ?_)
 dsimp only
 rw[hp]
 dsimp only
 refine AA (BH hI (by simp) fun h1 q1 b1=>AA (BH q1 (by simp) fun h2 q2 b2=>AA ?_))
 simp only[newExc,newTuple]
 refine AA (BB (AA (m:=firstArgMember _ _) (EH (a:=Value.none) (by first | rfl | (simp only[firstArgMember];rfl)) (BB ?_ (by size_fits)))) (by size_fits))
 simp only[raiseNew]
 refine AA (wpAny_handled ?_)
 rw[show A.in1.handled=none from hh]
 refine AA (AD (wpAny_throw ?_))
 refine AA ?_
 refine ER (T:="StopIteration") (b:=true) ?_ isSubtype_stop ?_
 ·exact⟨_,AG _ rfl,rfl⟩
 exact AD (hQ _ (((b1.trans b2).extBut.push _).push _))
theorem Dh {Q:Value→Shared→Prop} (q:s.heap.get? a=some o) (H:Holds prog w o es ep t σ (gz w)) (few:es.size≤sizeLine)
  (hm:(w.params.followText "set-order"=true∨(!t.plain&&decide (es.size > 1))=false)→Q (.ref s.heap.objs.size) {s with heap:=s.heap.push (iu (rawInt (0:Nat)) 0 a es.size ep)})
  (hd:w.params.followText "set-order"=false→∀(ys:List Nat) d,ys.Perm (List.range es.size) →
   Q (.ref (s.heap.objs.size+1)) {s with heap:=(s.heap.push {cls:=.type "tuple",data:=.seq (ys.map fun(i:Nat)=>rawInt i).toArray}).push (iu (.ref s.heap.objs.size) 0 a es.size ep),drawn:=d}) :
  wpAny (model prog w) A (pyIter (.ref a)) Q E s:=by
 have hT:s.TypeIs (.ref a) "set":=⟨o,q,H.set.1⟩
 refine wpAny_pyIter_slot hT GV (BK GV hT ui ?_ (PySem.F.args_set_iter_1 _))
 unfold Builtin.«frozenset.__iter__» Builtin.Frozenset.slot0 Builtin.Frozenset.sizeOf
 refine AA (AA (m:=slotArgs _ _ _) (AD (AD ?_)))
 refine AA (AA (Do q H.data H.fits (AD ?_)))
 unfold setDrawn setsByText
 refine AA (AA (CZ q H.data H.fits ?_))
 dsimp only
 refine AA (AA (DB (AD (AD ?_))))
 show wpAny _ _ (if(!w.params.followText "set-order"&&(!t.plain&&decide (es.size > 1)))=true then _ else _) _ _ _
 by_cases hc:(!w.params.followText "set-order"&&(!t.plain&&decide (es.size > 1)))=true
 ·rw[if_pos hc]
  have ht:w.params.followText "set-order"=false:=by
   rw[AX]at hc
   simpa using hc.1
  refine AA (oq _ _ _ (by simp) fun ys d p=>?_)
  refine AA (wpAny_newTuple ?_ (by rw[AV,p.length_eq,List.length_range];exact few))
  refine AA (wpAny_setEpoch_of (AB _ q) H.data H.fits ?_)
  refine AA (BB ?_ (by size_fits))
  have hz:(s.heap.push {cls:=.type "tuple",data:=.seq (ys.map fun(i:Nat)=>rawInt i).toArray}).objs.size=s.heap.objs.size+1:=CJ ..
  rw[hz]
  refine AD ⟨_,rfl,"set_iterator",_,?_,slot_next.lookup,hd ht ys d p⟩
  exact⟨_,hz ▸ AG _ rfl,rfl⟩
 ·rw[if_neg hc]
  refine AA (AD ?_)
  refine AA (wpAny_setEpoch_of q H.data H.fits ?_)
  refine AA (BB ?_ (by size_fits))
  refine AD ⟨_,rfl,"set_iterator",_,⟨_,AG _ rfl,rfl⟩,slot_next.lookup,hm ?_⟩
  cases ht:w.params.followText "set-order" with
  | true=>exact .inl rfl
  | false=>rw[ht]at hc;exact .inr (by simpa using hc)
end
end Lp.Sets
namespace Lp.Sets
open PySem PySem.W PyProof.Rows PySem.Calls
noncomputable def atOf (t:SetTable) (i:Nat):Nat:=if i=0 then 0 else t.place.getD (i-1) 0+1
theorem below_at {t:SetTable} {l:Bool} (T:Tidy t l) {i:Nat} (hi:i≤t.place.size):SetTable.below t.place (atOf t i)=i:=by
 obtain⟨p1,p2,p3⟩:=jq T.rose (atOf t i)
 generalize SetTable.below t.place (atOf t i)=p at *
 unfold atOf at p2 p3
 by_cases h0:i=0
 ·subst h0
  simp only[if_true]at p2
  by_cases hp:p=0
  ·exact hp
  ·have:=p2 0 (by lia)
   lia
 ·rw[if_neg h0]at p2 p3
  have a1:i≤p:=by
   by_cases h:i≤p
   ·exact h
   ·have:=p3 (i-1) (by lia) (by lia)
    lia
  have a2:p≤i:=by
   by_cases h:p≤i
   ·exact h
   ·have b1:=p2 i (by lia)
    have b2:=T.rose (i-1) i (by lia) (by lia)
    lia
  lia
section
variable {prog : Program} {w : World} {A : Around} {E : Value → Shared → Prop} {s : Shared} {I a T : Addr} {o : Obj} {es : Array (Int × Value)} {ep : Nat} {t : SetTable} {σ : List Int}
theorem uj (hh:A.handled=none) (ne:a≠I) (H:Holds prog w o es ep t σ (gz w)) (ht:w.params.followText "set-order"=true) :
  Walks prog w A I [I,a] [I] es.size (fun i v=>((pickOrder (w.params.setOrder a ep) es)[i]?).map (·.2)=some v) (fun i h=>h.get? a=some o∧h.get? I=some (iu (rawInt (0:Nat)) i a es.size ep)) where
 sub:=fun b hb=>by simp at hb;simp[hb]
 frame:=fun i h h' st k=>⟨k a (by simp) _ st.1,k I (by simp) _ st.2⟩
 item:=fun i s Q E hi st hQ=>by
  have sz:(pickOrder (w.params.setOrder a ep) es).size=es.size:=by simpa using(jr (w.params.setOrder a ep) es).length_eq
  have e:(pickOrder (w.params.setOrder a ep) es)[i]? = some ((pickOrder (w.params.setOrder a ep) es)[i]'(by lia)):=CG _
  refine yc (slot:=0) (nx:=0) (x:=((pickOrder (w.params.setOrder a ep) es)[i]'(by lia)).2) st.2 st.1 H rfl (fun A' E' Q' hq=>ou st.1 H ht (by rw[e];exact hq)) fun h' q' b'=>?_
  exact hQ _ h' s.toks (by rw[e];rfl) ⟨(b'.2 a ne).trans st.1,q'⟩ fun b o hb z=>b'.extBut b o (fun x=>hb (by simp[x])) z
 done:=fun s Q E st hQ=>by
  have sz:(pickOrder (w.params.setOrder a ep) es).size=es.size:=by simpa using(jr (w.params.setOrder a ep) es).length_eq
  have e:(pickOrder (w.params.setOrder a ep) es)[es.size]? = none:=GK (by lia)
  exact yd (slot:=0) hh st.2 st.1 H rfl (fun A' E' Q' hq=>ou st.1 H ht (by rw[e];exact hq)) fun h' b'=>hQ h' s.toks fun b o hb z=>b' b o (fun x=>hb (by simp[x])) z
 self:=fun i s Q E st hQ=>qu st.2 hQ
theorem qw (hh:A.handled=none) (ne:a≠I) (H:Holds prog w o es ep t σ (gz w)) (ht:w.params.followText "set-order"=false) (hp:(!t.plain&&decide (es.size > 1))=false) :
  Walks prog w A I [I,a] [I] es.size (fun i v=>(es[i]?).map (·.2)=some v) (fun i h=>h.get? a=some o∧h.get? I=some (iu (rawInt (atOf t i:Nat)) i a es.size ep)):=by
 have sz:t.place.size=es.size:=by
  have:=H.fits
  simp only[SetTable.fits,AX,beq_iff_eq]at this
  exact this.1
 refine⟨fun b hb=>by simp at hb;simp[hb],fun i h h' st k=>⟨k a (by simp) _ st.1,k I (by simp) _ st.2⟩,fun i s Q E hi st hQ=>?_,fun s Q E st hQ=>?_,fun i s Q E st hQ=>qu st.2 hQ⟩
 ·have e1:es[i]? = some es[i]:=CG hi
  have e2:t.place[i]? = some (t.place.getD i 0):=by
   have:i<t.place.size:=by lia
   simp[this]
  refine yc (x:=es[i].2) (nx:=t.place.getD i 0+1) st.2 st.1 H rfl (fun A' E' Q' hq=>kl st.1 H ht hp (by rw[below_at H.tidy (by lia),e1,e2];exact hq)) fun h' q' b'=>?_
  refine hQ _ h' s.toks (by rw[e1];rfl) ⟨(b'.2 a ne).trans st.1,?_⟩ fun b o hb z=>b'.extBut b o (fun x=>hb (by simp[x])) z
  have e3:atOf t (i+1)=t.place.getD i 0+1:=by simp[atOf]
  rw[e3];exact q'
 ·have e1:es[es.size]? = none:=GK (AL _)
  exact yd hh st.2 st.1 H rfl (fun A' E' Q' hq=>kl st.1 H ht hp (by rw[below_at H.tidy (by lia),e1];exact hq)) fun h' b'=>hQ h' s.toks fun b o hb z=>b' b o (fun x=>hb (by simp[x])) z
theorem qy (hh:A.handled=none) (ne:a≠I) (nt:T≠I) (H:Holds prog w o es ep t σ (gz w)) {ys:List Nat} (hy:ys.Perm (List.range es.size)) :
  Walks prog w A I [I,a,T] [I] es.size (fun i v=>((ys[i]?).bind fun j=>es[j]?).map (·.2)=some v) (fun i h=>h.get? a=some o∧h.get? I=some (iu (.ref T) i a es.size ep)∧h.IsTuple T (ys.map fun(i:Nat)=>rawInt i).toArray):=by
 have sz:ys.length=es.size:=by simpa using hy.length_eq
 refine⟨fun b hb=>by simp at hb;simp[hb],fun i h h' st k=>⟨k a (by simp) _ st.1,k I (by simp) _ st.2.1,st.2.2.at fun o e=>k T (by simp) o e⟩,fun i s Q E hi st hQ=>?_,fun s Q E st hQ=>?_,fun i s Q E st hQ=>qu st.2.1 hQ⟩
 ·have hi':i<ys.length:=by lia
  have e1:ys[i]? = some ys[i]:=AC hi'
  have hj:ys[i]<es.size:=by
   have:ys[i]∈List.range es.size:=hy.mem_iff.mp (BZ hi')
   simpa using this
  have e2:es[ys[i]]? = some es[ys[i]]:=CG hj
  refine Ao (j:=ys[i]) (e:=es[ys[i]]) st.2.1 st.1 H rfl st.2.2 (by simp[e1]) e2 fun h' q' b'=>?_
  exact hQ _ h' s.toks (by rw[e1];show(es[ys[i]]?).map (·.2)=_;rw[e2];rfl) ⟨(b'.2 a ne).trans st.1,q',st.2.2.at fun o e=>b'.extBut T o nt e⟩ fun b o hb z=>b'.extBut b o (fun x=>hb (by simp[x])) z
 ·exact ov hh st.2.1 st.1 H rfl st.2.2 (by simp[sz]) fun h' b'=>hQ h' s.toks fun b o hb z=>b' b o (fun x=>hb (by simp[x])) z
theorem Ap {Q:Bool→Shared→Prop} (q:s.heap.get? a=some o) (H:o.cls=.type "set") (h:Q false s):wpAny (model prog w) A (Builtin.List.listLengthHint (.ref a)) Q E s:=by
 have hT:s.TypeIs (.ref a) "set":=⟨o,q,H⟩
 unfold Builtin.List.listLengthHint
 refine AA (wpAny_specialOf hT PySem.F.slot_set_len.lookup ?_)
 generalize hid:("set.__len__":String)=z
 wp_delta
 rw[show splitId z=some ("set","__len__")from by subst hid;decide +kernel]
 subst hid
 refine AA (ER (T:="set") (b:=true) hT (by rw[DC];kernel_rfl) ?_)
 refine wpAny_ite_split (fun x=>absurd x (by decide)) fun _=>?_
 refine wpAny_ite_split (fun _=>?_) fun x=>absurd (by decide +kernel) x
 refine AA (FB hT ?_)
 exact AD h
end
end Lp.Sets
namespace Lp.Sets
open PySem PySem.W PyProof.Rows PySem.Calls
noncomputable def intOf:Value→Int
 | .int n _=>n
 | _=>0
theorem ints_of:∀{vs:List Value} {ns:List Int},IntsAre vs ns→ns=vs.map intOf∧∀v∈vs,∃n t,v=.int n t
 | _,_,.nil=>⟨rfl,fun v h=>by simp at h⟩
 | _,_,.cons n t r=>by
  obtain⟨e,h⟩:=ints_of r
  refine⟨by rw[AZ,←e];rfl,fun v hv=>?_⟩
  rcases AJ.mp hv with rfl | hv
  ·exact⟨n,t,rfl⟩
  ·exact h v hv
theorem ye:∀{vs:List Value},(∀v∈vs,∃n t,v=Value.int n t)→IntsAre vs (vs.map intOf)
 | [],_=>.nil
 | v::vs,h=>by
  obtain⟨n,t,rfl⟩:=h v AM
  exact .cons n t (ye fun u hu=>h u (AN _ hu))
theorem yf {us vs:List Value} {ns:List Int} (h:IntsAre vs ns) (p:us.Perm vs):∃ms,IntsAre us ms∧ms.Perm ns:=by
 obtain⟨e,hv⟩:=ints_of h
 refine⟨us.map intOf,ye fun u hu=>hv u (p.mem_iff.mp hu),?_⟩
 rw[e];exact p.map _
theorem ma {f:Nat→Option Value} {acc:Array Value} {n:Nat} {ord:List Value} (h:ItemsOf (fun i v=>f i=some v) acc n) (ho:ord.length=n) (hf:∀i,i<n→f i=ord[i]?):acc.toList=ord:=by
 obtain⟨h1,h2⟩:=h
 apply FU
 intro i
 by_cases hi:i<n
 ·have e:acc.toList[i]? = some acc[i]:=by
   rw[GU];exact CG (by lia)
  rw[e,←hf i hi]
  exact(h2 i _ (CG (by lia))).symm
 ·rw[DO (by simp;lia),DO (by lia)]
section
variable {prog : Program} {w : World} {A : Around} {E : Value → Shared → Prop} {s : Shared} {a : Addr} {σ : List Int}
theorem uk {R:Result→Shared→Prop} (hh:A.handled=none) (hS:qr prog w s.heap a σ (gz w)) (D:Addr) (res:Value) (qD:s.heap.get? D=some {cls:=.type "list",dict:=none,data:=.seq #[] 0,slots:=#[]}) (ne:D≠a) (few:σ.length≤sizeLine)
  (hR:∀(h':Heap) tk d acc c',(∀b o,b≠D→s.heap.get? b=some o→h'.get? b=some o)→h'.get? D=some {cls:=.type "list",dict:=none,data:=.seq acc c',slots:=#[]}→(∃ms,IntsAre acc.toList ms∧ms.Perm σ) →
   R (.ok (.ret res)) {s with heap:=h',toks:=tk,drawn:=d}) :
  wpAny (model prog w) A.in1 (Builtin.List.listExtendWith (.ref D) (.ref a) res) (fun fin s'=>match fin with | .done f=>R (.ok f) s' | .again c'=>c'.quiet=true∧codeAny (model prog w) A c' R s') (fun e s'=>R (.error e) s') s:=by
 obtain⟨o,es,ep,t,q,H⟩:=hS
 obtain⟨vs,pv,iv⟩:=H.vals
 have hn:es.size=σ.length:=H.len
 have lD:D<s.heap.objs.size:=AF qD
 have la:a<s.heap.objs.size:=AF q
 have perm:∀{acc:Array Value} {ord:List Value},acc.toList=ord→ord.Perm (es.toList.map (·.2))→∃ms,IntsAre acc.toList ms∧ms.Perm σ:=fun e p=>by
  rw[e];exact yf iv (p.trans pv)
 -- behind the iterator: the list is touched,and the loop runs
 have go:∀(h1:Heap) (d:Drawn) (I:Addr) (fp:List Addr) (P:Nat→Value→Prop) (St:Nat→Heap→Prop),Walks prog w A.in1 I fp [I] es.size P St→D∉fp→(∀b o,s.heap.get? b=some o→h1.get? b=some o)→s.heap.objs.size≤I →
   (∀h2:Heap,(∀b o,b≠D→h1.get? b=some o→h2.get? b=some o)→St 0 h2)→(∀acc,ItemsOf P acc es.size→∃ms,IntsAre acc.toList ms∧ms.Perm σ) →
   wpAny (model prog w) A.in1 (holding [.ref I] (Builtin.List.listLengthHint (.ref a))>>=fun room=>if(room || ["set","frozenset","dict","dict_keys","dict_values","dict_items"].any (Value.type "set"==.type ·))=true then do
     rule "list.extend.makes-room"
     Builtin.List.listTouch (.ref D)
     again (.builtin "list.extend.loop" ⟨[.ref D,.ref I,res],[]⟩)
    else again (.builtin "list.extend.loop" ⟨[.ref D,.ref I,res],[]⟩)) (fun fin s'=>match fin with | .done f=>R (.ok f) s' | .again c'=>c'.quiet=true∧codeAny (model prog w) A c' R s') (fun e s'=>R (.error e) s') {s with heap:=h1,drawn:=d}:=by
  intro h1 d I fp P St W df k1 lI st0 hacc
  refine AA (CP (Ap (s:={s with heap:=h1,drawn:=d}) (k1 a o q) H.set.1 ?_))
  rw[if_pos (by decide)]
  refine AA (EO ?_)
  have q1:=k1 D _ qD
  refine AA ?_
  show wpAny _ _ (updateSeq D (·.push .none)>>=fun _=>updateSeq D (·.pop)) _ _ _
  refine AA (wpAny_updateSeq q1 rfl ?_)
  have q2:=DP (Obj.mapSeq (·.push Value.none)) q1 rfl
  refine wpAny_updateSeq (hz:=by seq_fits) q2 rfl ?_
  have q3:=DP (Obj.mapSeq (·.pop)) q2 rfl
  have k3:∀b o,b≠D→h1.get? b=some o→((h1.update D (Obj.mapSeq (·.push Value.none))).update D (Obj.mapSeq (·.pop))).get? b=some o:=fun b o hb z=>by
   rw[DV _ _ _ _ hb,DV _ _ _ _ hb];exact z
  refine AD ⟨DN PySem.F.plain_extend_loop _,codeAny_extend_loopS W.toS (by lia) D df res es.size 0 _ #[] _ (by lia) (FS _) (st0 _ k3) q3 (ItemsOf.nil _) fun s' acc c' m qD' ha=>?_⟩
  rw[GW m]
  refine hR s'.heap s'.toks d acc c' (fun b o hb z=>m.heap b o ?_ (k3 b o hb (k1 b o z))) qD' (hacc acc ha)
  simp only[AJ,BD,or_false,not_or]
  exact⟨hb,AI (AO (AF z) lI)⟩
 unfold Builtin.List.listExtendWith
 refine AA (FB (T:="set") ⟨o,q,H.set.1⟩ ?_)
 have e1:Builtin.List.listSameRef (.ref D) (.ref a)=false:=by simp[Builtin.List.listSameRef,ne]
 have e2:(Value.type "set"==Value.type "list")=false:=by decide
 have e3:(Value.type "set"==Value.type "tuple")=false:=by decide
 simp only[e1,e2,e3,Bool.or_false,AQ,if_false]
 refine AA (Dh q H (by lia) (fun hm=>?_) fun ht ys d py=>?_)
 ·cases ht:w.params.followText "set-order" with
  | true =>
   refine go _ s.drawn _ _ _ _ (uj hh (AI la) H ht) (by simp;exact⟨AI lD,ne⟩) (fun b o z=>AB _ z) (AL _) (fun h2 k=>⟨k a o (Ne.symm ne) (AB _ q),k _ _ (CN lD) (AG _ rfl)⟩) fun acc ha=>?_
   have pp:=jr (w.params.setOrder a ep) es
   refine perm (ma (ord:=(pickOrder (w.params.setOrder a ep) es).toList.map (·.2)) ha (by rw[AV,pp.length_eq,BM]) fun i _=>by simp) (pp.map _)
  | false =>
   rcases hm with z | hp
   ·rw[ht]at z;exact absurd z (by decide)
   refine go _ s.drawn _ _ _ _ (qw hh (AI la) H ht hp) (by simp;exact⟨AI lD,ne⟩) (fun b o z=>AB _ z) (AL _) (fun h2 k=>⟨k a o (Ne.symm ne) (AB _ q),k _ _ (CN lD) (AG _ rfl)⟩) fun acc ha=>?_
   exact perm (ma (ord:=es.toList.map (·.2)) ha (by simp) fun i _=>by simp) (.refl _)
 ·have hz:(s.heap.push {cls:=.type "tuple",data:=.seq (ys.map fun(i:Nat)=>rawInt i).toArray}).objs.size=s.heap.objs.size+1:=CJ ..
  have sy:ys.length=es.size:=by simpa using py.length_eq
  refine go _ d _ _ _ _ (qy (A:=A.in1) (I:=s.heap.objs.size+1) (T:=s.heap.objs.size) (show A.in1.handled=none from hh) (AI (CY la)) (AI (EN _)) H py) (by simp;exact⟨AI (CY lD),ne,AI lD⟩) (fun b o z=>AB _ (AB _ z)) (EU _)
   (fun h2 k=>⟨k a o (Ne.symm ne) (AB _ (AB _ q)),k _ _ (CN (CY lD)) (hz ▸ AG _ rfl),⟨_,k _ _ (CN lD) (AB _ (AG _ rfl)),rfl,_,rfl⟩⟩) fun acc ha=>?_
  refine perm (ma (ord:=ys.map fun j=>(es.getD j (0,.none)).2) ha (by rw[AV];exact sy) fun i hi=>?_) ?_
  ·have hi':i<ys.length:=by lia
   have hj:ys[i]<es.size:=by
    have:ys[i]∈List.range es.size:=py.mem_iff.mp (BZ hi')
    simpa using this
   simp[hi',hj]
  ·have e:es.toList.map (·.2)=(List.range es.size).map fun j=>(es.getD j (0,.none)).2:=by
    apply FU
    intro i
    by_cases hi:i<es.size
    ·simp[hi]
    ·simp[hi]
   rw[e]
   exact py.map _
end
end Lp.Sets
namespace Lp.Sets
open PySem PySem.W PyProof.Rows PySem.Calls
section
variable {prog : Program} {w : World} {A : Around} {E : Value → Shared → Prop} {s : Shared} {a : Addr} {σ : List Int}
theorem qz {Q:List Value→Shared→Prop} (hh:A.handled=none) (hS:qr prog w s.heap a σ (gz w)) (few:σ.length≤sizeLine)
  (hQ:∀(h':Heap) tk d us ms,(∀b o,s.heap.get? b=some o→h'.get? b=some o)→s.heap.objs.size<h'.objs.size→IntsAre us ms→ms.Perm σ→Q us {s with heap:=h',toks:=tk,drawn:=d}):wpAny (model prog w) A (collect (.ref a)) Q E s:=by
 have la:a<s.heap.objs.size:=by obtain⟨o,_,_,_,q,_⟩:=hS;exact AF q
 unfold collect
 refine AA (wpAny_runValue (BW PySem.F.entry_proto_collect ?_))
 rw[BQ PySem.F.plain_proto_collect]
 show wpAny (model prog w) A.in1 (newList []>>=fun z=>again (.builtin "list.__iadd__" ⟨[z,.ref a],[]⟩)) _ _ s
 refine AA (BB (AD ⟨DN GD _,BW PySem.F.entry_list_iadd ?_⟩))
 rw[BQ GD]
 have qD:(s.heap.push {cls:=.type "list",data:=.seq ([]:List Value).toArray}).get? s.heap.objs.size=some {cls:=.type "list",dict:=none,data:=.seq #[] 0,slots:=#[]}:=AG _ rfl
 refine Da (uk (A:=A) (s:={s with heap:=s.heap.push {cls:=.type "list",data:=.seq ([]:List Value).toArray}}) (R:=fun r' s'=>r'=.ok (.ret (.ref s.heap.objs.size))∧∃(h':Heap) (tk:Nat) (d:Drawn) (acc:Array Value) (c':Nat),s'={s with heap:=h',toks:=tk,drawn:=d}∧(∀b o',s.heap.get? b=some o'→h'.get? b=some o') ∧
   h'.get? s.heap.objs.size=some {cls:=.type "list",dict:=none,data:=.seq acc c',slots:=#[]}∧∃ms,IntsAre acc.toList ms∧ms.Perm σ) hh (hS.at fun o z=>AB _ z) s.heap.objs.size (.ref s.heap.objs.size) qD (CN la) few
   fun h' tk d acc c' k q m=>⟨rfl,h',tk,d,acc,c',rfl,fun b o z=>k b o (AI (AF z)) (AB _ z),q,m⟩) (fun fin s' h=>?_) fun e s' h=>absurd h.1 (by simp)
 have fin':∀(r':Result) (s'':Shared),(r'=.ok (.ret (.ref s.heap.objs.size))∧∃(h':Heap) (tk:Nat) (d:Drawn) (acc:Array Value) (c':Nat),s''={s with heap:=h',toks:=tk,drawn:=d}∧(∀b o',s.heap.get? b=some o'→h'.get? b=some o') ∧
   h'.get? s.heap.objs.size=some {cls:=.type "list",dict:=none,data:=.seq acc c',slots:=#[]}∧∃ms,IntsAre acc.toList ms∧ms.Perm σ)→wpAny (model prog w) A (match Value.ref s.heap.objs.size with
   | Value.ref a=>do
    match(←load a).data with
     | Data.seq xs _=>pure xs.toList
     | _=>unsupported "internal:collect"
   | _=>unsupported "internal:collect") Q E s'':=by
  rintro r' s'' ⟨rfl,h',tk,d,acc,c',rfl,k,q,ms,i,p⟩
  show wpAny (model prog w) A (load s.heap.objs.size>>=_) _ _ _
  exact AA (wpAny_load q (AD (hQ h' tk d _ ms k (AF q) i p)))
 cases fin with
 | done f =>
  have e:f=.ret (.ref s.heap.objs.size):=by have:=h.1;cases this;rfl
  subst e
  exact fin' _ _ h
 | again c'=>exact⟨h.1,DE h.2 fun r' s'' hr=>by obtain⟨rfl,z⟩:=hr;exact fin' _ _ ⟨rfl,z⟩⟩
theorem um {Q:Value→Shared→Prop} (hh:A.handled=none) (hS:qr prog w s.heap a σ (gz w)) (few:σ.length<64)
  (h:∀(h':Heap) tk d p out ns c,(∀b o,s.heap.get? b=some o→h'.get? b=some o)→s.heap.objs.size≤p→h'.get? p=some (seqObj "list" out c)→IntsAre out.toList ns→ns.Perm σ→ns.Pairwise (·≤·)→Q (.ref p) {s with heap:=h',toks:=tk,drawn:=d}) :
  wpAny (model prog w) A (call (.builtin "sorted") [.ref a]) Q E s:=by
 have small:σ.length≤sizeLine:=by rw[EE];lia
 refine Calls.call_function_entry kind_sorted plain_sorted entry_sorted (args_sorted1 _) ?_
 unfold Builtin.«sorted»
 refine AA (m:=checkCount "sorted" 1 1 _) (AD (AA (qz (show A.in1.handled=none from hh) hS small fun h1 tk d us ms k lz i p=>?_)))
 have lu:us.length=σ.length:=by rw[l8 i,p.length_eq]
 refine AA (wpAny_newList ?_ (by lia))
 have qL:(h1.push (seqObj "list" us.toArray 0)).get? h1.objs.size=some (seqObj "list" us.toArray 0):=AG _ rfl
 refine AA (CP (BK slot_list_sort ⟨_,qL,rfl⟩ entry_list_sort (list_sort_tree (s:={s with heap:=h1.push (seqObj "list" us.toArray 0),toks:=tk,drawn:=d}) qL i (by lia) fun out ns j1 j2 j3=>⟨_,rfl,?_⟩) (args_list_sort _)))
 obtain⟨c,qc⟩:∃c,(sortedHeap (h1.push (seqObj "list" us.toArray 0)) h1.objs.size us out).get? h1.objs.size=some (seqObj "list" out c) :=
  ⟨_,get?_update_seq (AB _ (AB _ (get?_update_seq qL fun _=>#[]))) fun _=>out⟩
 refine AD ⟨_,rfl,h _ tk d _ out ns c (fun b o z=>?_) (DD lz) qc j1 (j2.trans p) j3⟩
 have zb:b≠h1.objs.size:=AI (AF (k b o z))
 unfold sortedHeap
 rw[DV _ _ _ _ zb]
 refine AB _ (AB _ ?_)
 rw[DV _ _ _ _ zb]
 exact AB _ (k b o z)
end
end Lp.Sets
namespace Lp
open PySem PySem.Spec PyProof.Rows L2
namespace Sets
theorem insI_perm (x:Int):∀l:List Int,(insI x l).Perm (x::l)
 | []=>.refl _
 | y::r=>by
  unfold insI
  split
  ·exact .refl _
  ·exact((insI_perm x r).cons y).trans (List.Perm.swap ..)
theorem sortI_perm:∀l:List Int,(sortI l).Perm l
 | []=>.refl _
 | x::r=>(insI_perm x (sortI r)).trans ((sortI_perm r).cons x)
theorem yg (x:Int):∀l:List Int,l.Pairwise (·≤·)→(insI x l).Pairwise (·≤·)
 | [],_=>by simp[insI]
 | y::r,h=>by
  obtain⟨h1,h2⟩:=AS.mp h
  unfold insI
  split
  ·rename_i hc
   refine AS.mpr ⟨fun z hz=>?_,h⟩
   rcases AJ.mp hz with rfl | hz
   ·exact hc
   ·exact Int.le_trans hc (h1 z hz)
  ·rename_i hc
   refine AS.mpr ⟨fun z hz=>?_,yg x r h2⟩
   rcases AJ.mp ((insI_perm x r).mem_iff.mp hz)with rfl | hz
   ·lia
   ·exact h1 z hz
theorem si:∀l:List Int,(sortI l).Pairwise (·≤·)
 | []=>.nil
 | x::r=>yg x _ (si r)
theorem yh:∀{l m:List Int},l.Perm m→l.Pairwise (·≤·)→m.Pairwise (·≤·)→l=m
 | [],m,p,_,_=>(List.nil_perm.mp p).symm
 | x::l,[],p,_,_=>by have:=p.length_eq;simp at this
 | x::l,y::m,p,h1,h2=>by
  obtain⟨a1,a2⟩:=AS.mp h1
  obtain⟨b1,b2⟩:=AS.mp h2
  have e:x=y:=by
   have hx:x∈y::m:=p.mem_iff.mp AM
   have hy:y∈x::l:=p.mem_iff.mpr AM
   rcases AJ.mp hx with e | hx
   ·exact e
   ·rcases AJ.mp hy with e | hy
    ·exact e.symm
    ·exact Int.le_antisymm (a1 y hy) (b1 x hx)
  subst e
  rw[yh (List.Perm.cons_inv p) a2 b2]
theorem ir (ns:List Int):firstMet (fun i=>ns.getD i 0) ns.length=fg ns:=by
 unfold firstMet fg
 have e:(List.range ns.length).map (fun i=>ns.getD i 0)=ns:=by
  apply FU
  intro i
  by_cases h:i<ns.length
  ·simp[h]
  ·simp[h]
 rw[e]
 rfl
theorem Di (ns:List Int):(fg ns).length≤ns.length:=by
 rw[←ir];exact firstMet_length_le _ _
theorem vals_ints:∀{ns:List Int} {us:List Value},a9 (ns.map V.int) us→IntsAre us ns
 | [],[],_=>.nil
 | n::r,u::us,h=>by
  cases h with
  | cons h1 h2 =>
   obtain⟨t,rfl⟩:=h1
   exact .cons n t (vals_ints h2)
 | [],u::us,h=>by cases h
 | n::r,[],h=>by cases h
theorem ow:∀{us:List Value} {ns:List Int},IntsAre us ns→a9 (ns.map V.int) us
 | _,_,.nil=>.nil
 | _,_,.cons n t r=>.cons ⟨t,rfl⟩ (ow r)
theorem drew {X:Cx} {pins:List (Addr×Obj)} {σ:List (Option V)} {H:Hp} {s:Shared} {d:Drawn} (I:Inv X pins σ H s):Inv X pins σ H {s with drawn:=d} :=
 ⟨I.ok,I.os,I.bare,I.base,I.loc,I.cell,I.free,I.freeC,I.pin,I.hok,I.len⟩
end Sets
section
variable {X : Cx} {φ : Phi} {a : Expr} {xa : Ex} {p p2 pos pos2 : Pos} {m : Mk}
noncomputable def Lb (K:PySem.W.Frag) (ta:TE) (k:List Int→Hp→VK→Prop):TE:=fun σ H Q=>ta σ H fun v H1=>∃(b:Addr) (ns:List Int),v=.ref b∧(LsL K H1 b (ns.map V.int)∨SqT K H1 b (ns.map V.int))∧ns.length<64∧k ns H1 Q
theorem Aq {σv:St} {H:Hp} {Q:VK} (h:tE X.K φ (.blt .sortedSet m (.cons xa .nil)) σv H Q) :
  Lb X.K (tE X.K φ xa) (fun ns H Q=>∀q,H q=none→FQ Q (.ref q) (upd H q (.lst ((sortI (fg ns)).map V.int)))) σv H Q:=by
 obtain⟨ι,σ,μ,hS,hL,h⟩:=h
 simp only[evE,fi]at h
 rw[Res.bind_assoc]at h
 obtain⟨d,μ1,e1,h⟩:=h.bind
 refine⟨ι,σ,μ,hS,hL,?_⟩
 rw[e1]
 intro ι1 v H1 p1 x1 s1 d1
 have h:=h.mono p1 x1
 simp only[Res.cg]at h
 simp only[btD,fw]at h
 obtain⟨b,ns,rfl,hq,h⟩:=wz s1 d1 h
 split at h
 ·rename_i h64
  exact⟨b,ns,rfl,hq,h64,fun q z=>gj s1 (ae.ints _) h z⟩
 ·exact h.elim
theorem gp (hms:X.mg "sorted"=none) (hmt:X.mg "set"=none) (ha:PE X a (tE X.K φ xa)) (hgs:Gl X "sorted":=by rfl) (hgt:Gl X "set":=by rfl) (hc:X.calm=true:=by rfl)
  (hs:starEach [a] X.env=[(false,eval a X.env)]:=by rfl) (hs2:starEach [.Call (.Name "set" p2) [a] [] pos2] X.env=[(false,eval (.Call (.Name "set" p2) [a] [] pos2) X.env)]:=by rfl) :
  PE X (.Call (.Name "sorted" p) [.Call (.Name "set" p2) [a] [] pos2] [] pos) (tE X.K φ (.blt .sortedSet m (.cons xa .nil))):=by
 refine PE.imp (t:=Lb X.K (tE X.K φ xa) fun ns H Q=>∀q,H q=none→FQ Q (.ref q) (upd H q (.lst ((sortI (fg ns)).map V.int)))) ?_ fun σv H Q h=>Aq h
 intro pins s σ H Q I h
 refine DF (i5 I hgs hms (by first | exact PyProof.Rows.boot_sorted | decide +kernel) ?_ (by decide) (by decide))
 refine EM ?_ hs2 rfl
 rw[hs2]
 refine FH ?_
 refine DF (i5 I hgt hmt (by first | exact PyProof.Rows.boot_set | decide +kernel) ?_ (by decide) (by decide))
 refine CO ?_ hs rfl
 rw[hs]
 refine FH (thn (ha pins s σ H _ I h) fun u s1 ⟨v,H1,I1,r1,b,ns,ev,hq,h64,q⟩=>FO ?_)
 subst ev
 cases(show u=Value.ref b from r1)
 obtain⟨bb,its,hv,hsq⟩:∃(bb:Bool) (its:List Value),a9 (ns.map V.int) its∧SQ bb s1.heap b its.toArray:=by
  rcases hq with hq | hq
  ·obtain⟨z,its,n,hv,hl,hg⟩:=I1.ls hq
   exact⟨true,its,hv,⟨_,hg,rfl,n,rfl⟩⟩
  ·obtain⟨its,hv,ht,hz⟩:=I1.tuple hq
   exact⟨false,its,hv,ht⟩
 have ln:its.length=ns.length:=by have:=hv.length;simpa using this.symm
 refine Sets.An (ns:=ns) (I1.ok.hd hc) hsq (by simpa using Sets.vals_ints hv) (by rw[AE];unfold scanBound;lia) fun h1 tk1 hH k1=>FO ?_
 have hsz:its.toArray.size=ns.length:=by rw[AE];exact ln
 rw[hsz,Sets.ir]at hH
 have hd:=Sets.Di ns
 refine v9 (Sets.um (s:={s1 with heap:=h1,toks:=tk1}) (I1.ok.hd hc) hH (by lia) fun h2 tk2 d pq out ms c k2 lp qp i1 i2 i3=>?_)
 have e:ms=sortI (fg ns):=Sets.yh (i2.trans (Sets.sortI_perm _).symm) i3 (Sets.si _)
 subst e
 have l1:s1.heap.objs.size<h1.objs.size:=by obtain⟨o,_,_,_,z,_⟩:=hH;exact AF z
 have lp':s1.heap.objs.size≤pq:=by
  have:h1.objs.size≤pq:=lp
  lia
 have lz:(sortI (fg ns)).length≤ns.length:=by rw[(Sets.sortI_perm _).length_eq];exact hd
 have I2:=I1.laid (a:=pq) (o:=.lst ((sortI (fg ns)).map V.int)) (h':=h2) (t':=tk2) (fun b o z=>k2 b o (k1 b o z)) lp' ⟨by rw[AV,EE];lia,out.toList,c,Sets.ow i1,by rw[Array.toArray_toList];exact qp⟩
 exact⟨.ref pq,_,Sets.drew I2,rfl,q pq (I1.hok.fresh lp')⟩
end
end Lp
namespace Lp.Dic
open PySem PySem.W PyProof.Rows PySem.Calls
theorem md:mroOf (.type "dict")=pure [.type "dict",.type "object"]:=by rw[mroOf_type];kernel_rfl
theorem jt:typeLookup (.type "dict") "__new__"=pure (some (.builtin "dict.__new__")):=by rw[EZ,DQ];kernel_rfl
theorem bh:TypeCalled "dict" "dict.__new__" "dict.__init__" :=
 ⟨by decide +kernel,by decide +kernel,⟨_,_,md⟩,madeBy_type md jt (by decide +kernel),by decide +kernel,by rw[DC];kernel_rfl,GM⟩
theorem ju (a:Value):checkTypeCall "dict" ⟨[a],[]⟩=pure ():=by kernel_rfl
theorem j9 (a:Value):checkBuiltinCall "dict.__new__" ⟨[.type "dict",a],[]⟩=pure ():=by kernel_rfl
theorem ka:entryFor table "dict.__new__"=some Builtin.«dict.__new__»:=GC (by kernel_rfl)
theorem gh:plainId "dict.__new__"=true:=by decide +kernel
theorem km:entryFor table "dict.update.loop"=some Builtin.«dict.update.loop»:=GC (by kernel_rfl)
theorem f9:plainId "dict.update.loop"=true:=by decide +kernel
theorem me:isSubtype (.type "dict") (.type "dict")=pure true:=by rw[DC];kernel_rfl
theorem yi:typeLookup (.type "list") "keys"=pure none:=by rw[EZ,DQ];kernel_rfl
section
variable {prog : Program} {w : World} {A : Around} {E : Value → Shared → Prop} {s : Shared}
theorem Dj {a:Addr} {o:Obj} {xs:Array Value} {k:Nat} {Q:Option Value→Shared→Prop} (hx:s.heap.get? a=some o) (hc:o.cls=.type "list") (hdat:o.data=.seq xs k) (hd:o.dict=none) (hA:A.handled=none)
  (h:∀h' tk,(∀b u,s.heap.get? b=some u→h'.get? b=some u)→Q none {s with heap:=h',toks:=tk}) :
  wpAny (model prog w) A (getAttr? (.ref a) "keys") Q E s:=by
 obtain⟨c,dct,dat,sl⟩:=o
 simp only at hc hdat hd
 subst hc hdat hd
 obtain⟨hp,g,d,tk,os⟩:=s
 have hT:∀tk',(⟨hp,g,d,tk',os⟩:Shared).TypeIs (.ref a) "list":=fun _=>⟨_,hx,rfl⟩
 have f1:=sub_AttributeError
 have f3:=DZ.lookup
 have f4:=DZ.bind (.ref a)
 have f5:=am_list_getattr_none
 unfold getAttr? getAttrBy?
 repeat (any_goals (first | assumption | exact hT _ | (refine DM ?_;unfold getAttrBy) | ((with_reducible show wpAny _ _ (call (Value.builtin "list.__getattribute__") _ _) _ _ _);refine GG DZ (hT _) am_entry_list_getattribute (F.args_list_getattribute_2 _ _) (meets_getattribute_miss_list a xs k sl "keys" _ yi (by decide +kernel) (by size_fits)) ⟨hx,hA,fun h' tk' e hx'=>?_⟩) | wp_step))
 obtain⟨t',u',he⟩:=hx'.there
 show wpAny _ _ (getattributeRaised _ _ _ _ _ _ _) _ _ _
 unfold getattributeRaised
 repeat (any_goals (first | assumption | wp_step))
 exact h _ _ hx'.keeps
end
end Lp.Dic
namespace Lp.Dic
open PySem PySem.W PyProof.Rows PySem.Calls
section
variable {prog : Program} {w : World} {A : Around} {E : Value → Shared → Prop} {s : Shared}
noncomputable abbrev freshDict:Obj:={cls:=.type "dict",dict:=none,data:=.dict #[]}
theorem Ar (x:Value) {Q₁:Value→Shared→Prop} (h:Q₁ (.ref s.heap.objs.size) {s with heap:=s.heap.push freshDict}) :
  codeAny (model prog w) A (.call (.builtin "dict.__new__") ⟨[.type "dict",x],[]⟩) (wants Q₁ E) s:=by
 refine EY ?_
 show wpAny (model prog w) A.in1 (do checkBuiltinCall "dict.__new__" ⟨[.type "dict",x],[]⟩;again (.builtin "dict.__new__" ⟨[.type "dict",x],[]⟩)) _ _ s
 refine AA (EH (j9 x) (AD ⟨DN gh _,BW ka ?_⟩))
 rw[BQ gh]
 unfold Builtin.«dict.__new__»
 have e1:=me
 have e2:=md
 obtain⟨hp,g,d,tk,os⟩:=s
 dsimp only
 wp_walk
 exact h
end
section
variable {K : Type} [DecidableEq K] {prog : Program} {w : World} {knd : KeyKind prog w K} {A : Around} {R : Result → Shared → Prop} {I : Addr} {fp wr : List Addr} {G : Array GenState → Array GenState → Prop} {n : Nat} {P : Nat → Value → Prop} {St : Nat → Shared → Prop}
noncomputable def du (kv:Nat→K×Value):Nat→List (K×Value)
 | 0=>[]
 | i+1=>stored (du kv i) (kv i).1 (kv i).2
theorem uo (kvs:List (K×Value)) (k:K) (v:Value):(stored kvs k v).length≤kvs.length+1:=by
 unfold stored
 split<;>simp
theorem gq (kv:Nat→K×Value):∀i,(du kv i).length≤i
 | 0=>AL _
 | i+1=>BV (uo _ _ _) (Nat.succ_le_succ (gq kv i))
theorem sj:1000≤sizeLine:=by decide +kernel
theorem oy {h h':Heap} {a:Addr} {kvs:List (K×Value)} (H:h.DictOf knd a kvs) (k:∀o,h.get? a=some o→h'.get? a=some o):h'.DictOf knd a kvs:=by
 obtain⟨o,es,ep,q,z⟩:=H
 exact⟨o,es,ep,k o q,z⟩
theorem pair_items {E:Value→Shared→Prop} {s:Shared} {t:Addr} {o:Obj} {key val:Value} {ep:Nat} {Q:List Value→Shared→Prop} (q:s.heap.get? t=some o) (c:o.cls=.type "tuple") (d:o.data=.seq #[key,val] ep) (h:Q [key,val] s) :
  wpAny (model prog w) A (Builtin.Dict.pairItems (.ref t)) Q E s:=by
 have hT:s.TypeIs (.ref t) "tuple":=⟨o,q,c⟩
 unfold Builtin.Dict.pairItems
 wp_walk
 rw[d]
 exact AD (AD h)
theorem uq (W:WalksS prog w A.in1 I fp wr G n P St) (a:Addr) (af:a∉fp) (kv:Nat→K×Value) (base:Heap)
  (hv:∀i v,P i v→∃(t:Addr) (o:Obj) (key val:Value) (ep:Nat),v=.ref t∧t∉a::wr∧base.get? t=some o∧o.cls=.type "tuple"∧o.data=.seq #[key,val] ep∧knd.is (kv i).1 key=true∧(kv i).2=val) (few:n<1000) :
  ∀(d i:Nat) (s:Shared),n-i=d→i≤n→St i s→(∀b o,b∉a::wr→base.get? b=some o→s.heap.get? b=some o)→s.heap.DictOf knd a (du kv i)→(∀s',Moved (a::wr) G s s'→s'.heap.DictOf knd a (du kv n)→R (.ok (.ret .none)) s') →
   codeAny (model prog w) A (.builtin "dict.update.loop" ⟨[.ref a,.ref I,rawInt (i:Int),.none],[]⟩) R s:=by
 have aw:a∉wr:=fun z=>af (W.sub _ z)
 intro d
 induction d with
 | zero =>
  intro i s hd hi st hb H fin
  have e:i=n:=by omega
  subst e
  refine BW km ?_
  rw[BQ f9]
  unfold Builtin.«dict.update.loop»
  show wpAny (model prog w) A.in1 (pyNext (.ref I)>>=_) _ _ s
  refine AA (W.done s _ _ st fun s' m=>?_)
  show wpAny (model prog w) A.in1 (Builtin.Dict.addKeywords a []>>=_) _ _ s'
  refine AA (EH (show Builtin.Dict.addKeywords a []=pure ()from rfl) (AD ?_))
  exact fin s' (m.mono fun b z=>AN _ z) (oy H fun o z=>m.heap a o aw z)
 | succ d ih =>
  intro i s hd hi st hb H fin
  refine BW km ?_
  rw[BQ f9]
  unfold Builtin.«dict.update.loop»
  show wpAny (model prog w) A.in1 (pyNext (.ref I)>>=_) _ _ s
  refine AA (W.item i s _ _ (by omega) st fun v s' p st' m=>?_)
  obtain⟨t,o,key,val,ep,rfl,tn,qt,ct,dt,hk,hval⟩:=hv i v p
  have H':s'.heap.DictOf knd a (du kv i):=oy H fun o z=>m.heap a o aw z
  have qs:s'.heap.get? t=some o:=m.heap t o (fun z=>tn (AN _ z)) (hb t o tn qt)
  have hT:s'.TypeIs (.ref t) "tuple":=⟨o,qs,ct⟩
  refine AA (CP (AA (wpAny_tryCatch (pair_items qs ct dt ?_))))
  show wpAny (model prog w) A.in1 (holding [key,val] (dictSet a key val)) _ _ s'
  have hl:(du kv i).length≤sizeLine:=by have:=gq kv i;have:=sj;omega
  refine CP (wpAny_dictSet_pairs (hsz:=hl) hk H' fun h' H2 sb=>?_)
  rw[←hval]at H2
  refine AD ⟨DN f9 _,?_⟩
  have e1:((i:Int)+1)=((i+1:Nat):Int):=by omega
  rw[e1]
  refine ih (i+1) _ (by omega) (by omega) (W.frame _ s' _ _ st' (EU _) fun b hb o z=>?_) (fun b o hb' z=>?_) H2 fun s2 m2 H3=>?_
  ·rw[sb.2 b fun e=>af (e ▸ hb)];exact z
  ·show h'.get? b=some o
   rw[sb.2 b fun e=>hb' (e ▸ AM)]
   exact m.heap b o (fun z=>hb' (AN _ z)) (hb b o hb' z)
  ·refine fin s2 (Moved.trans W.gtrans ((m.mono fun b z=>AN _ z).then_heap (EU _) fun b o hb z=>?_) m2) H3
   rw[sb.2 b fun e=>hb (e ▸ AM)];exact z
end
end Lp.Dic
namespace Lp.Dic
open PySem PySem.W PyProof.Rows PySem.Calls
section
variable {prog : Program} {w : World} {A : Around} {E : Value → Shared → Prop} {s : Shared}
variable {K : Type} [DecidableEq K] {knd : KeyKind prog w K}
theorem ur {h:Heap} {a:Addr} (q:h.get? a=some freshDict):h.DictOf knd a []:=⟨_,#[],0,q,⟨rfl,rfl,rfl⟩,rfl,fun _ he=>by simp at he,Pairs.nil,List.nodup_nil⟩
theorem yj {a x:Addr} {o:Obj} {items:Array Value} {ep:Nat} {kv:Nat→K×Value} {R:Result→Shared→Prop} (hh:A.handled=none) (qx:s.heap.get? x=some o) (cx:o.cls=.type "list") (dx:o.data=.seq items ep) (nx:o.dict=none)
  (hv:∀i v,items[i]? = some v→∃(t:Addr) (o:Obj) (key val:Value) (ep:Nat),v=.ref t∧t≠a∧s.heap.get? t=some o∧o.cls=.type "tuple"∧o.data=.seq #[key,val] ep∧knd.is (kv i).1 key=true∧(kv i).2=val) (few:items.size<1000)
  (q:s.heap.get? a=some freshDict) (ne:a≠x)
  (fin:∀h' tk,h'.DictOf knd a (du kv items.size)→(∀c o,c≠a→s.heap.get? c=some o→h'.get? c=some o)→R (.ok (.ret .none)) {s with heap:=h',toks:=tk}) :
  wpAny (model prog w) A.in1 (Builtin.«dict.__init__» ⟨[.ref a,.ref x],[]⟩) (fun fin s'=>match fin with | .done f=>R (.ok f) s' | .again c'=>c'.quiet=true∧codeAny (model prog w) A c' R s') (fun e s'=>R (.error e) s') s:=by
 have hT:s.TypeIs (.ref x) "list":=⟨o,qx,cx⟩
 have hS:s.TypeIs (.ref a) "dict":=⟨_,q,rfl⟩
 unfold Builtin.«dict.__init__» Builtin.Dict.selfAndRest Builtin.Dict.updateCommon Builtin.Dict.updateFrom
 generalize hPI:pyIter=PI
 generalize hGA:getAttr? = GA
 obtain⟨hp,g,d,tk,os⟩:=s
 wp_walk
 subst hGA
 refine Dj qx cx dx nx (by simpa using hh) fun h1 tk1 kp=>?_
 rw[if_pos (show(none:Option Value).isNone=true from rfl)]
 wp_walk
 subst hPI
 have hL:SQ true h1 x items:=⟨o,kp x o qx,cx,ep,dx⟩
 refine l4 (b:=true) hL (AD ⟨DN f9 _,?_⟩)
 have lx:x<h1.objs.size:=SQ.lt hL
 have qa:=kp a _ q
 have la:a<h1.objs.size:=AF qa
 refine uq (knd:=knd) ((Sets.sh (b:=true) (A:=A.in1) (show A.in1.handled=none from hh) h1.objs.size x (AI lx) items).toS) a ?_ kv h1 (fun i v z=>?_) few items.size 0 _ (by omega) (FS _)
  ⟨?_,SQ.push hL _⟩ (fun b u _ z=>AB _ z) (ur (AB _ qa)) fun s' m H=>?_
 ·simp only[AJ,BD,or_false,not_or]
  exact⟨AI la,ne⟩
 ·obtain⟨t,u,key,val,ep',e1,e2,e3,e4,e5,e6,e7⟩:=hv i v z
  refine⟨t,u,key,val,ep',e1,?_,kp t u e3,e4,e5,e6,e7⟩
  simp only[AJ,BD,or_false,not_or]
  exact⟨e2,AI (AF (kp t u e3))⟩
 ·exact⟨_,AG _ rfl,rfl,rfl⟩
 ·rw[GW m]
  refine fin s'.heap s'.toks H fun c u hc z=>m.heap c u ?_ (AB _ (kp c u z))
  simp only[AJ,BD,or_false,not_or]
  exact⟨hc,AI (AF (kp c u z))⟩
theorem ie {M:Model} {self a:Value} {Q:Unit→Shared→Prop} (hT:s.TypeIs self "dict") (hQ:Q () s) :
  wpAny M A (checkBuiltinCall "dict.__init__" ⟨[self,a],[]⟩) Q E s :=
 GM.check _ _ _ _ _ _ _ _ hT (PySem.F.args_dict_init_2 self a) hQ
theorem yk {x:Addr} {o:Obj} {items:Array Value} {ep:Nat} {kv:Nat→K×Value} {Q:Value→Shared→Prop} (hh:A.handled=none) (qx:s.heap.get? x=some o) (cx:o.cls=.type "list") (dx:o.data=.seq items ep) (nx:o.dict=none)
  (hv:∀i v,items[i]? = some v→∃(t:Addr) (o:Obj) (key val:Value) (ep:Nat),v=.ref t∧s.heap.get? t=some o∧o.cls=.type "tuple"∧o.data=.seq #[key,val] ep∧knd.is (kv i).1 key=true∧(kv i).2=val) (few:items.size<1000)
  (h:∀h' tk,h'.DictOf knd s.heap.objs.size (du kv items.size)→(∀c o,s.heap.get? c=some o→h'.get? c=some o)→Q (.ref s.heap.objs.size) {s with heap:=h',toks:=tk}) :
  wpAny (model prog w) A (call (.type "dict") [.ref x]) Q E s:=by
 obtain⟨c,tl,hmro⟩:=bh.mro
 have hm:=bh.made
 have hs:=bh.sub
 have hn:=bh.notType
 have hcc:=bh.canCreate
 have hct:=ju (.ref x)
 refine wpAny_call (EY ?_)
 show wpAny (model prog w) _ (callAny (.type "dict") _) _ _ _
 refine AD ⟨Code.quiet_builtin _ (by decide +kernel),BW GB ?_⟩
 rw[Around.under_plain (weight_type_call_type "dict" [.ref x] []) rfl]
 repeat (any_goals (first | assumption | wp_step))
 refine DE (Ar (w:=w) (.ref x) (E:=E) (Q₁:=fun obj s₁=>obj=.ref s.heap.objs.size∧s₁={s with heap:=s.heap.push freshDict}) ⟨rfl,rfl⟩) fun r s₁ hr=>?_
 cases r with
 | error e=>exact hr
 | ok fl =>
  cases fl with
  | ret obj =>
   obtain⟨rfl,rfl⟩:=hr
   have q:(s.heap.push freshDict).get? s.heap.objs.size=some freshDict:=AG _ rfl
   have hT:Shared.TypeIs {s with heap:=s.heap.push freshDict} (.ref s.heap.objs.size) "dict":=⟨_,q,rfl⟩
   have hli:=bh.init.lookup
   have hbi:=bh.init.bind (.ref s.heap.objs.size)
   repeat (any_goals (first | assumption | wp_step))
   refine DE (codeAny_call_builtin (R:=wants (fun r s₂=>r=.none∧Q (.ref s.heap.objs.size) s₂) E) bh.init.plain PySem.F.entry_dict_init (ie hT ?_)) fun r₂ s₂ z=>?_
   ·refine yj (knd:=knd) (s:={s with heap:=s.heap.push freshDict}) (kv:=kv) (by simpa using hh) (AB _ qx) cx dx nx (fun i v z=>?_) few q (CN (AF qx)) fun h' tk H k=>?_
    ·obtain⟨t,u,key,val,ep',e1,e3,e4,e5,e6,e7⟩:=hv i v z
     exact⟨t,u,key,val,ep',e1,AI (AF e3),AB _ e3,e4,e5,e6,e7⟩
    ·exact⟨rfl,h h' tk H fun c o e=>k c o (AI (AF e)) (AB _ e)⟩
   ·cases r₂ with
    | error e=>exact z
    | ok fl₂ =>
     cases fl₂ with
     | ret r =>
      obtain⟨rfl,z⟩:=z
      repeat (any_goals (first | assumption | wp_step))
     | _=>exact z
  | _=>exact hr
end
end Lp.Dic
namespace Lp
open PySem PySem.Spec PyProof.Rows L2
section
variable {X : Cx} {pins : List (Addr × Obj)} {s : Shared} {σ : St} {H : Hp}
noncomputable def yl (K:PySem.W.Frag) (H:Hp):List V→List (Key×V)→Prop:=Paired fun v p=>∃t,v=.ref t∧SqT K H t [kV p.1,p.2]
noncomputable def putAll (kvs:List (Key×V)):List (Key×V):=kvs.foldl (fun m p=>putK m p.1 p.2) []
theorem jv (I:Inv X pins σ H s):∀{ys:List V} {kvs:List (Key×V)} {its:List Value},yl X.K H ys kvs→a9 ys its →
  ∃vs:List (Key×Value),KV kvs vs∧Paired (fun(u:Value) (q:Key×Value)=>∃(t:Addr) (o:Obj) (key val:Value) (ep:Nat),u=.ref t∧s.heap.get? t=some o∧o.cls=.type "tuple"∧o.data=.seq #[key,val] ep∧(bz X.prog X.w).is q.1 key=true∧q.2=val) its vs
 | [],_,_,.nil,r=>by
  cases r
  exact⟨[],.nil,.nil⟩
 | y::ys,p::kvs,_,.cons hp hr,r=>by
  cases r with
  | cons r1 r2 =>
   rename_i u its
   obtain⟨t,rfl,ht⟩:=hp
   obtain⟨vs,k1,k2⟩:=jv I hr r2
   cases(show u=Value.ref t from r1)
   obtain⟨us,ru,⟨o,qo,co,n,dn⟩,_⟩:=I.tuple ht
   obtain⟨a,b,rfl,ra,rb⟩:=vals2 ru
   exact⟨(p.1,b)::vs,.cons ⟨rfl,rb⟩ k1,.cons ⟨t,o,a,b,n,rfl,qo,co,dn,zt ra,rfl⟩ k2⟩
theorem ym:∀{kvs:List (Key×V)} {vs:List (Key×Value)} {m:List (Key×V)} {m':List (Key×Value)},KV kvs vs→KV m m'→KV (kvs.foldl (fun m p=>putK m p.1 p.2) m) (vs.foldl (fun m p=>stored m p.1 p.2) m')
 | [],_,_,_,.nil,h=>h
 | p::kvs,q::vs,m,m',.cons ⟨e,r⟩ t,h=>by
  rw[BR,BR]
  refine ym t ?_
  rw[e]
  exact h.put q.1 r
theorem fm (vs:List (Key×Value)):∀i,i≤vs.length→Dic.du (fun j=>vs.getD j (.inl 0,.none)) i=(vs.take i).foldl (fun m p=>stored m p.1 p.2) []
 | 0,_=>rfl
 | i+1,h=>by
  have hi:i<vs.length:=h
  rw[Dic.du,fm vs i (DD hi),List.take_add_one,AC hi,Option.toList_some,List.foldl_append]
  simp[hi]
theorem ko {α β:Type} {F:α→β→Prop}:∀{xs:List α} {ys:List β} {i:Nat} {x:α},Paired F xs ys→xs[i]? = some x→∃y,ys[i]? = some y∧F x y
 | x'::xs,y'::ys,0,_,.cons h _,e=>by cases e;exact⟨y',rfl,h⟩
 | x'::xs,y'::ys,i+1,x,.cons _ t,e=>by
  obtain⟨y,e1,e2⟩:=ko (i:=i) t (by simpa using e)
  exact⟨y,by simpa using e1,e2⟩
theorem oz (hc:X.calm=true):bx X (.type "dict") (fun xs H Q=>∃p ys kvs,xs=[.ref p]∧SqL X.K H p ys∧yl X.K H ys kvs∧ys.length<1000∧∀l,H l=none→Q (.ref l) (upd H l (.dK (putAll kvs)))):=by
 intro pins s σ H xs us Q I r h
 obtain⟨p,ys,kvs,rfl,hq,hp,few,q⟩:=h
 obtain⟨u,rfl,rx⟩:=vals1 r
 cases rx
 obtain⟨its,r',⟨o,n,qo,co,do',no⟩,hz⟩:=I.list hq
 obtain⟨vs,k1,k2⟩:=jv I hp r'
 have l1:=r'.length
 have l2:=DL k2
 have l3:=DL hp
 refine Dic.yk (knd:=bz X.prog X.w) (kv:=fun j=>vs.getD j (.inl 0,.none)) (I.ok.hd hc) qo co no do' (fun i v z=>?_) (by simp only[AE];omega) fun h' tk D kp=>?_
 ·have z':its[i]? = some v:=by simpa using z
  obtain⟨y,e1,e2⟩:=ko k2 z'
  rw[show vs.getD i (.inl 0,.none)=y by simp[e1]]
  exact e2
 ·simp only[AE]at D
  rw[show its.length=vs.length from l2,fm vs _ (AL _),Go]at D
  have rel:KV (putAll kvs) (vs.foldl (fun m p=>stored m p.1 p.2) []):=ym k1 .nil
  have lz:(putAll kvs).length≤sizeLine:=by
   rw[rel.length,←Go (l:=vs),←fm vs _ (AL _)]
   have:=Dic.gq (fun j=>vs.getD j (.inl 0,.none)) vs.length
   have:=Dic.sj
   omega
  exact⟨.ref s.heap.objs.size,_,I.laid (t':=tk) kp (AL _) (E9 lz (beq_eq_false_iff_ne.mpr (Ne.symm (AI I.big))) rel D),rfl,q _ (I.hok.fresh (AL _))⟩
end
end Lp
namespace Lp
open PySem PySem.Spec PyProof.Rows L2
section
variable {X : Cx} {φ : Phi} {e : Expr} {es : List Expr} {xs : Exs} {pos : Pos}
noncomputable def Gp (K:PySem.W.Frag) (H:Hp) (p:D×D) (q:Key×V):Prop:=p.1=kD q.1∧Lp.IsD K [] H p.2 q.2
theorem sk {K:PySem.W.Frag} {ι:List Addr} {H:Hp}:∀{ds:List D} {xs:List V} {ps:List (D×D)},ae K ι H ds xs→ja ds=some ps→∃kvs:List (Key×V),yl K H xs kvs∧Paired (Gp K H) ps kvs
 | [],xs,ps,hx,h=>by
  have e:xs=[]:=by simpa[ae]using hx
  subst e
  cases h
  exact⟨[],.nil,.nil⟩
 | d::r,xs,ps,hx,h=>by
  simp only[ae]at hx
  obtain⟨x,xr,rfl,q,t⟩:=hx
  unfold ja at h
  split at h
  ·rename_i e;cases e
  ·rename_i k v r' e
   obtain⟨rfl,rfl⟩:d=.tup [k,v]∧r=r':=by simpa using e
   split at h
   ·rename_i hk
    obtain⟨ps',e2,rfl⟩:=DG.mp h
    obtain⟨kvs,h1,h2⟩:=sk t e2
    obtain⟨a,ys,rfl,hs,hd⟩:∃a ys,x=V.ref a∧SqT K H a ys∧ae K ι H [k,v] ys:=by simpa[Lp.IsD]using q
    simp only[ae]at hd
    obtain⟨y1,s1,rfl,d1,y2,s2,rfl,d2,rfl⟩:=hd
    obtain⟨c,rfl,rfl⟩:=wo hk.1 d1
    exact⟨(c,y2)::kvs,.cons ⟨a,rfl,hs⟩ h1,.cons ⟨rfl,IsD.pur hk.2 d2⟩ h2⟩
   ·cases h
  ·cases h
theorem sr {K:PySem.W.Frag} {H:Hp}:∀{ps:List (D×D)} {kvs:List (Key×V)} {m:List (D×D)} {mv:List (Key×V)},Paired (Gp K H) ps kvs→zg K H m mv→zg K H (ps.foldl (fun m p=>dput p.1 p.2 m) m) (kvs.foldl (fun m p=>putK m p.1 p.2) mv)
 | [],_,_,_,.nil,h=>h
 | p::ps,q::kvs,m,mv,.cons ⟨e,r⟩ t,h=>by
  rw[BR,BR,e]
  exact sr t (Ab r h)
theorem As {m:Mk} (hc:X.calm=true):bx X (.type "dict") (lq X.K (btD .dictP m)):=bx.imp (oz hc) fun xs H Q ⟨ι,ds,μ,hS,hds,h⟩=>by
 obtain⟨d,v,rfl,hv,h⟩:=gm hds h
 unfold v7 at h
 cases e:Lp.listOf μ d with
 | none=>rw[e]at h;exact h.elim
 | some es =>
  rw[e]at h
  simp only[CS]at h
  cases e2:ja es with
  | none=>rw[e2]at h;exact h.elim
  | some ps =>
   rw[e2]at h
   simp only at h
   split at h
   ·rename_i hl
    obtain⟨a,ys,rfl,hq,hys⟩:=fj hS hv e
    obtain⟨kvs,hp,hk⟩:=sk hys e2
    have l1:=DL hp
    have l2:=DL hk
    refine⟨a,ys,kvs,rfl,hq.sq,hp,by lia,fun l hn=>?_⟩
    refine h (ι++[l]) (.ref l) _ (List.prefix_append _ _) (Ext.new hn) (hS.push hn ⟨_,au,?_⟩) ?_
    ·refine sr (Paired.mapP hk fun p q z=>⟨z.1,IsD.mono (AH _) (Ext.new hn) _ _ z.2⟩) .nil
    ·show Lp.IsD _ _ _ _ _
     simp only[Lp.IsD]
     exact⟨l,rfl,by rw[←hS.len];simp⟩
   ·exact h.elim
theorem Au {m:Mk} {p:Pos} (hm:X.mg "dict"=none) (ha:PA X (e::es) (tEs X.K φ xs)) (hg:Gl X "dict":=by rfl) (hc:X.calm=true:=by rfl) (he:starEach (e::es) X.env=(false,eval e X.env)::starEach es X.env:=by rfl) (hpl:(backTo pos (starEach es X.env)).any (·.1)=false:=by rfl) :
  PE X (.Call (.Name "dict" p) (e::es) [] pos) (tE X.K φ (.blt .dictP m xs)):=ia (r:=fun _ _ _=>True) (es:=es) (i6 (As hc) hg hm (by decide +kernel) ha (by decide) (by decide) he hpl)
end
end Lp
namespace Lp
open PySem PySem.Spec PyProof.Rows L2
section
variable {X : Cx} {φ : Phi} {o e : Expr} {es : List Expr} {xo : Ex} {xs : Exs} {apos cpos : Pos}
noncomputable def rInsert:V→List V→Hp→VK→Prop:=fun x vs H Q=>∃l xs i y,x=.ref l∧vs=[.int i,y]∧H l=some (.lst xs)∧0≤i∧i≤(xs.length:Int)∧xs.length<sizeLine∧Q .non (upd H l (.lst (xs.take i.toNat++y::xs.drop i.toNat)))
theorem yn:MtM X "list.insert" rInsert:=by
 intro pins s σ H x vs v us Q I rx rv h
 obtain⟨l,xs,i,y,rfl,rfl,hH,h1,h2,hz,q⟩:=h
 cases rx
 obtain⟨a,u,rfl,ra,ru⟩:=vals2 rv
 obtain⟨t,rfl⟩:=ra
 obtain⟨z,its,n,r,hl,e⟩:=I.lstM hH
 have h24:sizeLine=16777216:=EE
 refine GG F.slot_list_insert ⟨_,e,rfl⟩ F.entry_list_insert (F.args_list_insert_3 _ _ _)
  (AutoSeq1.list_insert_list_int_val_1 l its.toArray n i t u (by rw[fitsIndex_both (k:=i) (by lia) (by lia)];decide) (by rw[AE];lia)) ⟨e,?_⟩
 refine⟨.non,_,I.lset (its':=its.take i.toNat++u::its.drop i.toNat) hH e ?_ ((r.take i.toNat).append (.cons ru (r.drop i.toNat))) ?_,rfl,q⟩
 ·have hk:(if i<0 then(i+((its.toArray.size:Nat):Int)).toNat else min i.toNat its.toArray.size)=i.toNat:=by
   rw[if_neg (by lia),AE];lia
  simp only[hk]
  apply Array.toList_inj.mp
  simp
  exact DH (by simp)
 ·simp
  lia
theorem Av:MtR X "list.insert" (rMt X.K .insert):=MtR.imp yn fun x vs H Q h0=>by
 obtain⟨ι,n,ob,xs,ds,μ,a,ws,hS,hds,rfl,ha,hH,h1,h2,h⟩:=F9 (by decide) h0
 clear h0
 simp only[mtL]at h
 split at h
 ·rename_i i d
  obtain⟨v,w,rfl,hv,hw⟩:=wy hds
  cases bw hv
  split at h
  ·rename_i hf
   rw[f6]at hf
   refine⟨a,ws,i,w,rfl,rfl,hH,hf.1,by rw[h1.length];exact hf.2.1,by rw[h1.length];exact hf.2.2.2,r9 hS ha hH ((h1.take _).append ((ae.one hw).append (h1.drop _))) (fun es e=>((h2 es e).take _).append ((ae.one (oj hf.2.2.1 hw es e)).append ((h2 es e).drop _))) (by simp[IsD]) h⟩
  ·exact h.elim
 ·exact h.elim
theorem rd (ho:PE X o (tE X.K φ xo)) (ha:PA X (e::es) (tEs X.K φ xs)) (hbase:attributeBase o "insert" X.env (eval o X.env)=eval o X.env:=by rfl)
  (hfew:((backTo cpos (starEach (e::es) X.env)).all (fun x=>!x.1)&&(backToKw cpos (keywordEach [] X.env)).all (fun x=>x.1.isSome)&&decide ((e::es).length+([]:List Keyword).length+(if([]:List Keyword).isEmpty then 0 else 1)<30))=true:=by rfl)
  (hline:(apos.endLine==cpos.line)=true:=by rfl) (hs:starEach (e::es) X.env=(false,eval e X.env)::starEach es X.env:=by rfl) (hplain:(backTo cpos (starEach es X.env)).any (·.1)=false:=by rfl):PE X (.Call (.Attribute o "insert" apos) (e::es) [] cpos) (tE X.K φ (.meth .insert xo xs)) :=
 Bk (ki fun _ _=>rfl) (E5 F.plainAttrs_list F.slot_list_insert F.type_list_insert Av ho ha hbase hfew hline hs hplain)
end
end Lp
namespace Lp
open PySem
noncomputable abbrev mf:Nat:=13
noncomputable abbrev d5:Nat:=82
noncomputable abbrev av:Nat:=83
noncomputable abbrev d6:Nat:=99
noncomputable abbrev cq:Nat:=134
noncomputable abbrev ez:Nat:=135
noncomputable abbrev gb:Nat:=136
noncomputable abbrev dh:Nat:=154
noncomputable abbrev g0:Nat:=155
noncomputable abbrev cu:Nat:=156
noncomputable abbrev bu:Nat:=157
noncomputable abbrev cv:Nat:=158
noncomputable abbrev jw:Nat:=159
noncomputable def ig:Ex:=(.cmp (.var 0) (.cons .lt (.var 1) .nil))
noncomputable def D_rises:Df:=⟨1,1,(.cons (.ret (.blt .all .z (.cons (.comp .z [] 2 (.many [0,1]) (.zip (.var 0) (.sl .z (.var 0) (.so (.cst (.int 1))) .no)) .nil ig) .nil))) .nil)⟩
noncomputable def D_law_cell:Df:=⟨2,2,(.cons (.ite (.cmp (.var 1) (.cons .lt (.blt .len .z (.cons (.var 0) .nil)) .nil)) (.cons (.ret (.ix (.var 0) (.var 1))) .nil) .nil) (.cons (.ret (.cst (.int 0))) .nil))⟩
noncomputable def D_law_stir:Df:=⟨2,3,(.cons (.set 2 (.bin .Mod .z (.bin .Add .z (.bin .Add .z (.var 0) (.bin .Mult .z (.cst (.int 7919)) (.var 1))) (.cst (.int 101))) (.cst (.int 2147483647)))) (.cons (.set 2 (.bin .Mod .z (.bin .Mult .z (.var 2) (.var 2)) (.cst (.int 2147483647)))) (.cons (.ret (.bin .FloorDiv .z (.bin .Mod .z (.bin .Mult .z (.var 2) (.cst (.int 48271))) (.cst (.int 2147483629))) (.cst (.int 7)))) .nil)))⟩
noncomputable def mh:Sms:=(.cons (.ite (.not (.call false d6 (.cons (.ix (.var 0) (.var 2)) (.cons (.ix (.var 1) (.var 2)) .nil)))) (.cons (.ret (.cst (.bl false))) .nil) .nil) .nil)
noncomputable def D_law_same:Df:=⟨2,3,(.cons (.ite (.isi (.var 1) .tuple) (.cons (.ite (.or (.not (.isi (.var 0) .tuple)) (.cmp (.blt .len .z (.cons (.var 0) .nil)) (.cons .ne (.blt .len .z (.cons (.var 1) .nil)) .nil))) (.cons (.ret (.cst (.bl false))) .nil) .nil) (.cons (.loop (.one 2) (.rng (.blt .len .z (.cons (.var 1) .nil))) mh) (.cons (.ret (.cst (.bl true))) .nil))) .nil) (.cons (.ite (.or (.cmp (.var 1) (.cons .is (.cst .non) .nil)) (.isi (.var 1) .str)) (.cons (.ret (.cmp (.var 0) (.cons .eq (.var 1) .nil))) .nil) .nil) (.cons (.ret (.and (.isi (.var 0) .int) (.and (.not (.isi (.var 0) .bool)) (.cmp (.var 0) (.cons .eq (.var 1) .nil))))) .nil)))⟩
noncomputable def D_law_bound_2:Df:=⟨1,2,(.cons (.set 1 (.call false av (.cons (.var 0) (.cons (.cst (.int 3)) .nil)))) (.cons (.ite (.cmp (.bin .Mod .z (.var 1) (.cst (.int 8))) (.cons .eq (.cst (.int 0)) .nil)) (.cons (.ret (.bin .Sub .z (.bin .Pow .z (.cst (.int 10)) (.cst (.int 40))) (.bin .Mod .z (.bin .FloorDiv .z (.var 1) (.cst (.int 8))) (.cst (.int 3))))) .nil) .nil) (.cons (.ite (.cmp (.bin .Mod .z (.var 1) (.cst (.int 8))) (.cons .eq (.cst (.int 1)) .nil)) (.cons (.ret (.bin .Mod .z (.var 0) (.bin .Pow .z (.cst (.int 10)) (.cst (.int 40))))) .nil) .nil) (.cons (.ret (.bin .Mod .z (.bin .FloorDiv .z (.var 1) (.cst (.int 8))) (.cst (.int 13)))) .nil))))⟩
noncomputable def dw:Sms:=(.cons (.set 4 (.call false av (.cons (.var 3) (.cons (.cst (.int 1)) .nil)))) (.cons (.set 5 (.bin .Mod .z (.var 4) (.var 1))) (.cons (.set 6 (.bin .Mod .z (.bin .Add .z (.bin .Add .z (.var 5) (.cst (.int 1))) (.bin .Mod .z (.bin .FloorDiv .z (.var 4) (.var 1)) (.bin .Sub .z (.var 1) (.cst (.int 1))))) (.var 1))) (.cons (.ex (.meth .append (.var 2) (.cons (.tup (.cons (.var 5) (.cons (.var 6) (.cons (.call false cq (.cons (.var 3) .nil)) (.cons (.bin .Mod .z (.call false av (.cons (.var 3) (.cons (.cst (.int 2)) .nil))) (.cst (.int 13))) .nil))))) .nil))) .nil))))
noncomputable def D_law_web_2:Df:=⟨2,7,(.cons (.set 2 (.lst .l .nil)) (.cons (.loop (.one 3) (.seq (.var 0)) dw) (.cons (.ret (.tup (.cons (.var 1) (.cons (.blt .tuple .z (.cons (.var 2) .nil)) .nil)))) .nil)))⟩
noncomputable def D_law_ends:Df:=⟨2,3,(.cons (.set 2 (.bin .Mod .z (.bin .FloorDiv .z (.var 0) (.cst (.int 7))) (.var 1))) (.cons (.ret (.tup (.cons (.var 2) (.cons (.bin .Mod .z (.bin .Add .z (.bin .Add .z (.var 2) (.cst (.int 1))) (.bin .Mod .z (.bin .FloorDiv .z (.var 0) (.cst (.int 77))) (.bin .Sub .z (.var 1) (.cst (.int 1))))) (.var 1)) .nil)))) .nil))⟩
noncomputable def c9:Ex:=(.tup (.cons (.var 0) (.cons (.cst (.bl true)) .nil)))
noncomputable def bj:Exs:=(.cons (.and (.cmp (.var 1) (.cons .in_ (.var 0) .nil)) (.cmp (.var 2) (.cons .notin (.var 0) .nil))) .nil)
noncomputable def bo:Ex:=(.var 3)
noncomputable def D_side_worth:Df:=⟨2,3,(.cons (.set 2 (.blt .dictP .z (.cons (.comp .z [] 1 (.one 0) (.seq (.var 1)) .nil c9) .nil))) (.cons (.ret (.blt .sum .z (.cons (.comp .z [2] 4 (.many [1,2,3,4]) (.seq (.ix (.var 0) (.cst (.int 1)))) bj bo) .nil))) .nil))⟩
noncomputable def di:Ex:=(.cmp (.cst (.int 0)) (.cons .le (.var 1) (.cons .lt (.ix (.var 0) (.cst (.int 0))) .nil)))
noncomputable def D_is_side:Df:=⟨4,5,(.cons (.set 4 (.blt .all .z (.cons (.comp .z [0] 1 (.one 1) (.seq (.var 3)) .nil di) .nil))) (.cons (.ret (.and (.var 4) (.and (.call false mf (.cons (.var 3) .nil)) (.and (.cmp (.var 1) (.cons .in_ (.var 3) .nil)) (.cmp (.var 2) (.cons .notin (.var 3) .nil)))))) .nil))⟩
noncomputable def ck:Sms:=(.cons (.ex (.meth .append (.var 2) (.cons (.bin .Mod .z (.call false av (.cons (.var 0) (.cons (.bin .Add .z (.cst (.int 10)) (.var 4)) .nil))) (.var 1)) .nil))) .nil)
noncomputable def D_law_numbers:Df:=⟨2,5,(.cons (.set 2 (.lst .l .nil)) (.cons (.set 3 (.call false av (.cons (.var 0) (.cons (.cst (.int 4)) .nil)))) (.cons (.loop (.one 4) (.rng (.bin .Mod .z (.var 3) (.cst (.int 9)))) ck) (.cons (.ite (.cmp (.bin .Mod .z (.bin .FloorDiv .z (.var 3) (.cst (.int 9))) (.cst (.int 2))) (.cons .eq (.cst (.int 0)) .nil)) (.cons (.set 2 (.blt .sortedSet .l (.cons (.var 2) .nil))) .nil) .nil) (.cons (.ret (.frz 2)) .nil)))))⟩
noncomputable def D_law_spoilt_4:Df:=⟨3,5,(.cons (.set 3 (.blt .list .l (.cons (.var 0) .nil))) (.cons (.set 4 (.ix (.lst .z (.cons (.neg (.cst (.int 1))) (.cons (.var 2) (.cons (.bin .Add .z (.var 2) (.cst (.int 1))) (.cons (.bin .Pow .z (.cst (.int 10)) (.cst (.int 20))) (.cons (.neg (.var 2)) (.cons (.cst (.int 0)) (.cons (.bin .Sub .z (.var 2) (.cst (.int 1))) .nil)))))))) (.bin .Mod .z (.call false av (.cons (.var 1) (.cons (.cst (.int 7)) .nil))) (.cst (.int 7))))) (.cons (.ex (.meth .insert (.var 3) (.cons (.bin .Mod .z (.call false av (.cons (.var 1) (.cons (.cst (.int 8)) .nil))) (.bin .Add .z (.blt .len .z (.cons (.var 3) .nil)) (.cst (.int 1)))) (.cons (.var 4) .nil)))) (.cons (.ret (.frz 3)) .nil))))⟩
noncomputable def D_law_is_side:Df:=⟨4,4,(.cons (.ite (.or (.cmp (.var 0) (.cons .ne (.blt .sortedSet .z (.cons (.var 0) .nil)) .nil)) (.or (.cmp (.var 2) (.cons .notin (.var 0) .nil)) (.cmp (.var 3) (.cons .in_ (.var 0) .nil)))) (.cons (.ret (.cst (.bl false))) .nil) .nil) (.cons (.ret (.and (.cmp (.ix (.var 0) (.cst (.int 0))) (.cons .ge (.cst (.int 0)) .nil)) (.cmp (.ix (.var 0) (.neg (.cst (.int 1)))) (.cons .lt (.var 1) .nil)))) .nil))⟩
noncomputable def cc:Exs:=(.cons (.and (.cmp (.ix (.var 1) (.cst (.int 0))) (.cons .in_ (.var 0) .nil)) (.cmp (.ix (.var 1) (.cst (.int 1))) (.cons .notin (.var 0) .nil))) .nil)
noncomputable def cf:Ex:=(.ix (.var 1) (.cst (.int 2)))
noncomputable def dj:Exs:=(.cons (.cmp (.var 1) (.cons .ne (.var 0) .nil)) .nil)
noncomputable def dk:Ex:=(.var 1)
noncomputable def fo:Sms:=(.cons (.set 11 (.call false g0 (.cons (.var 3) (.cons (.var 4) (.cons (.var 5) (.cons (.blt .tuple .z (.cons (.var 10) .nil)) .nil)))))) (.cons (.ite (.or (.not (.isi (.var 11) .bool)) (.cmp (.var 11) (.cons .ne (.call false cv (.cons (.var 10) (.cons (.var 2) (.cons (.var 4) (.cons (.var 5) .nil))))) .nil))) (.cons (.ret (.cst (.bl false))) .nil) .nil) .nil))
noncomputable def ft:Sms:=(.cons (.set 7 (.call false cu (.cons (.var 6) (.cons (.var 2) .nil)))) (.cons (.set 8 (.blt .sum .z (.cons (.comp .z [7] 1 (.one 1) (.seq (.ix (.var 3) (.cst (.int 1)))) cc cf) .nil))) (.cons (.ite (.not (.call false d6 (.cons (.call false dh (.cons (.var 3) (.cons (.blt .tuple .z (.cons (.var 7) .nil)) .nil))) (.cons (.var 8) .nil)))) (.cons (.ret (.cst (.bl false))) .nil) .nil) (.cons (.set 9 (.blt .sortedSet .z (.cons (.bin .Add .z (.lst .z (.cons (.var 4) .nil)) (.comp .z [5] 1 (.one 1) (.seq (.var 7)) dj dk)) .nil))) (.cons (.loop (.one 10) (.seq (.lst .z (.cons (.var 7) (.cons (.var 9) (.cons (.call false bu (.cons (.var 7) (.cons (.var 6) (.cons (.var 2) .nil)))) (.cons (.call false bu (.cons (.var 9) (.cons (.var 6) (.cons (.var 2) .nil)))) .nil)))))) fo) .nil)))))
noncomputable def D_law_k19:Df:=⟨1,12,(.cons (.set 1 (.call false av (.cons (.call false d5 (.cons (.var 0) (.cons (.cst (.int 0)) .nil))) (.cons (.cst (.int 0)) .nil)))) (.cons (.set 2 (.bin .Add .z (.cst (.int 2)) (.bin .Mod .z (.var 1) (.cst (.int 6))))) (.cons (.set 3 (.call false ez (.cons (.sl .z (.var 0) (.so (.cst (.int 2))) (.so (.cst (.int 26)))) (.cons (.var 2) .nil)))) (.cons (.unp [4,5] (.call false gb (.cons (.var 1) (.cons (.var 2) .nil)))) (.cons (.loop (.one 6) (.seq (.bin .Add .z (.lst .z (.cons (.cst (.int 0)) .nil)) (.blt .list .z (.cons (.var 0) .nil)))) ft) (.cons (.ret (.cst (.bl true))) .nil))))))⟩
noncomputable def GL:List Df:=[⟨0,0,.nil⟩,⟨0,0,.nil⟩,⟨0,0,.nil⟩,⟨0,0,.nil⟩,⟨0,0,.nil⟩,⟨0,0,.nil⟩,⟨0,0,.nil⟩,⟨0,0,.nil⟩,⟨0,0,.nil⟩,⟨0,0,.nil⟩,⟨0,0,.nil⟩,⟨0,0,.nil⟩,⟨0,0,.nil⟩,D_rises,⟨0,0,.nil⟩,⟨0,0,.nil⟩,⟨0,0,.nil⟩,⟨0,0,.nil⟩,⟨0,0,.nil⟩,⟨0,0,.nil⟩,⟨0,0,.nil⟩,⟨0,0,.nil⟩,⟨0,0,.nil⟩,⟨0,0,.nil⟩,⟨0,0,.nil⟩,⟨0,0,.nil⟩,⟨0,0,.nil⟩,⟨0,0,.nil⟩,⟨0,0,.nil⟩,⟨0,0,.nil⟩,⟨0,0,.nil⟩,⟨0,0,.nil⟩,⟨0,0,.nil⟩,⟨0,0,.nil⟩,⟨0,0,.nil⟩,⟨0,0,.nil⟩,⟨0,0,.nil⟩,⟨0,0,.nil⟩,⟨0,0,.nil⟩,⟨0,0,.nil⟩,⟨0,0,.nil⟩,⟨0,0,.nil⟩,⟨0,0,.nil⟩,⟨0,0,.nil⟩,⟨0,0,.nil⟩,⟨0,0,.nil⟩,⟨0,0,.nil⟩,⟨0,0,.nil⟩,⟨0,0,.nil⟩,⟨0,0,.nil⟩,⟨0,0,.nil⟩,⟨0,0,.nil⟩,⟨0,0,.nil⟩,⟨0,0,.nil⟩,⟨0,0,.nil⟩,⟨0,0,.nil⟩,⟨0,0,.nil⟩,⟨0,0,.nil⟩,⟨0,0,.nil⟩,⟨0,0,.nil⟩,⟨0,0,.nil⟩,⟨0,0,.nil⟩,⟨0,0,.nil⟩,⟨0,0,.nil⟩,⟨0,0,.nil⟩,⟨0,0,.nil⟩,⟨0,0,.nil⟩,⟨0,0,.nil⟩,⟨0,0,.nil⟩,⟨0,0,.nil⟩,⟨0,0,.nil⟩,⟨0,0,.nil⟩,⟨0,0,.nil⟩,⟨0,0,.nil⟩,⟨0,0,.nil⟩,⟨0,0,.nil⟩,⟨0,0,.nil⟩,⟨0,0,.nil⟩,⟨0,0,.nil⟩,⟨0,0,.nil⟩,⟨0,0,.nil⟩,⟨0,0,.nil⟩,D_law_cell,D_law_stir,⟨0,0,.nil⟩,⟨0,0,.nil⟩,⟨0,0,.nil⟩,⟨0,0,.nil⟩,⟨0,0,.nil⟩,⟨0,0,.nil⟩,⟨0,0,.nil⟩,⟨0,0,.nil⟩,⟨0,0,.nil⟩,⟨0,0,.nil⟩,⟨0,0,.nil⟩,⟨0,0,.nil⟩,⟨0,0,.nil⟩,⟨0,0,.nil⟩,⟨0,0,.nil⟩,D_law_same,⟨0,0,.nil⟩,⟨0,0,.nil⟩,⟨0,0,.nil⟩,⟨0,0,.nil⟩,⟨0,0,.nil⟩,⟨0,0,.nil⟩,⟨0,0,.nil⟩,⟨0,0,.nil⟩,⟨0,0,.nil⟩,⟨0,0,.nil⟩,⟨0,0,.nil⟩,⟨0,0,.nil⟩,⟨0,0,.nil⟩,⟨0,0,.nil⟩,⟨0,0,.nil⟩,⟨0,0,.nil⟩,⟨0,0,.nil⟩,⟨0,0,.nil⟩,⟨0,0,.nil⟩,⟨0,0,.nil⟩,⟨0,0,.nil⟩,⟨0,0,.nil⟩,⟨0,0,.nil⟩,⟨0,0,.nil⟩,⟨0,0,.nil⟩,⟨0,0,.nil⟩,⟨0,0,.nil⟩,⟨0,0,.nil⟩,⟨0,0,.nil⟩,⟨0,0,.nil⟩,⟨0,0,.nil⟩,⟨0,0,.nil⟩,⟨0,0,.nil⟩,⟨0,0,.nil⟩,D_law_bound_2,D_law_web_2,D_law_ends,⟨0,0,.nil⟩,⟨0,0,.nil⟩,⟨0,0,.nil⟩,⟨0,0,.nil⟩,⟨0,0,.nil⟩,⟨0,0,.nil⟩,⟨0,0,.nil⟩,⟨0,0,.nil⟩,⟨0,0,.nil⟩,⟨0,0,.nil⟩,⟨0,0,.nil⟩,⟨0,0,.nil⟩,⟨0,0,.nil⟩,⟨0,0,.nil⟩,⟨0,0,.nil⟩,⟨0,0,.nil⟩,⟨0,0,.nil⟩,D_side_worth,D_is_side,D_law_numbers,D_law_spoilt_4,D_law_is_side,D_law_k19,⟨0,0,.nil⟩,⟨0,0,.nil⟩,⟨0,0,.nil⟩,⟨0,0,.nil⟩,⟨0,0,.nil⟩,⟨0,0,.nil⟩,⟨0,0,.nil⟩]
theorem Dk:GL[mf]? = some D_rises:=rfl
theorem uu:GL[d5]? = some D_law_cell:=rfl
theorem uv:GL[av]? = some D_law_stir:=rfl
theorem uw:GL[d6]? = some D_law_same:=rfl
theorem mi:GL[cq]? = some D_law_bound_2:=rfl
theorem rf:GL[ez]? = some D_law_web_2:=rfl
theorem ux:GL[gb]? = some D_law_ends:=rfl
theorem o3:GL[dh]? = some D_side_worth:=rfl
theorem yo:GL[g0]? = some D_is_side:=rfl
theorem mj:GL[cu]? = some D_law_numbers:=rfl
theorem kb:GL[bu]? = some D_law_spoilt_4:=rfl
theorem mn:GL[cv]? = some D_law_is_side:=rfl
theorem yp:GL[jw]? = some D_law_k19:=rfl
end Lp
namespace Lr
open Lp
open PySem
theorem mq {f:D→Sl→Sto→Res Fl} (I:Nat→Sl→Sto→Prop):∀{ds:List D} {σ:Sl} {μ:Sto} (k:Nat),I k σ μ →
  (∀(j:Nat) d σ μ,ds[j]? = some d→I (k+j) σ μ→∃σ' μ',f d σ μ=.ok (.nx σ') μ'∧I (k+j+1) σ' μ') →
  ∃σ' μ',gx none f ds σ μ=.ok (.nx σ') μ'∧I (k+ds.length) σ' μ'
 | [],σ,μ,k,h,_=>⟨σ,μ,by simp[gx],h⟩
 | d::ds,σ,μ,k,h,st=>by
  obtain⟨σ1,μ1,e1,h1⟩:=st 0 d σ μ rfl h
  obtain⟨σ2,μ2,e2,h2⟩:=mq I (ds:=ds) (σ:=σ1) (μ:=μ1) (k+1) h1 fun j d σ μ e i=>by
   obtain⟨σ',μ',a,b⟩:=st (j+1) d σ μ (by simpa using e) (by rw[show k+(j+1)=k+1+j by omega];exact i)
   exact⟨σ',μ',a,by rw[show k+1+j+1=k+(j+1)+1 by omega];exact b⟩
  refine⟨σ2,μ2,?_,by rw[show k+(d::ds).length=k+1+ds.length by simp;omega];exact h2⟩
  simp only[gx,qe,if_true,e1,Res.cg,e2]
theorem ar {T:List Df} {n i:Nat} {d:Df} {ds:List D} {μ:Sto} (h:T[i]? = some d):ax T (n+1) i ds μ=D4 (ax T n) d ds μ:=by
 simp only[ax,h]
noncomputable def finD (fl:Fl) (μ:Sto):Res D:=match fl with
 | .nx _=>.ok .non μ
 | .rt d=>.ok d μ
 | _=>.stuck
@[simp] theorem Jp (d:D) (μ:Sto):finD (.rt d) μ=.ok d μ:=rfl
@[simp] theorem Jq (σ:Sl) (μ:Sto):finD (.nx σ) μ=.ok .non μ:=rfl
theorem run_eq {φ:Phi} {f:Df} {ds:List D} {μ:Sto} (h:ds.length=f.np):D4 φ f ds μ=(ik φ f.body (ds.map some++List.replicate (f.nn-f.np) none) μ).bind finD:=by
 rw[D4,if_pos h];rfl
theorem gc (b:Nat):∀(k:Nat) (d:D),D.pureN k d=true→D.belowN b k d=true
 | 0,d,h=>by cases d<;>simp_all[D.pureN,D.belowN]
 | k+1,d,h=>by
  cases d with
  | tup ds =>
   simp only[D.pureN,D.belowN,AT]at h ⊢
   exact fun x hx=>gc b k x (h x hx)
  | lst ds =>
   simp only[D.pureN,D.belowN,AT]at h ⊢
   exact fun x hx=>gc b k x (h x hx)
  | loc n=>simp[D.pureN]at h
  | _=>rfl
theorem su {k:Nat} {ds:List D}:D.pureN (k+1) (.tup ds)=ds.all (D.pureN k):=rfl
theorem Aw {k:Nat} {ds:List D}:D.pureN (k+1) (.lst ds)=ds.all (D.pureN k):=rfl
theorem jx {k:Nat} {i:Int}:D.pureN k (.int i)=true:=by cases k<;>rfl
noncomputable abbrev mz (μ:Sto):Prop:=μ.all (gi μ.length)=true
theorem uy {d:D} {μ:Sto} {b:Nat} (hd:d.pure=true) (hb:μ.length=b) (hr:mz μ):jc false b (.ok d μ)=.ok d μ:=by
 have e:μ.take b=μ:=DH (by omega)
 have hr':μ.all (gi b)=true:=by rw[←hb];exact hr
 simp only[jc,AQ,if_false,e,gc b 8 d hd,hr',and_self,if_true]
@[simp] theorem uz {d:D} {μ:Sto} {b:Nat}:jc true b (.ok d μ)=.ok d μ:=by simp[jc]
theorem op_mul {i j:Int} {μ:Sto} (h:CMul i j):opI .Mult i j μ=.ok (.int (i*j)) μ:=by simp[opI,h]
theorem kq {i j:Int} {μ:Sto} (h:0<j) (h2:j<1073741824):opI .FloorDiv i j μ=.ok (.int (i / j)) μ:=by simp[opI,h,h2]
theorem op_mod {i j:Int} {μ:Sto} (h:0<j):opI .Mod i j μ=.ok (.int (i % j)) μ:=by simp[opI,h]
theorem op_add {i j:Int} {μ:Sto}:opI .Add i j μ=.ok (.int (i+j)) μ:=rfl
theorem op_sub {i j:Int} {μ:Sto}:opI .Sub i j μ=.ok (.int (i-j)) μ:=rfl
theorem op_pow {i:Int} {j:Int} {μ:Sto} (h:0≤j∧j≤1000000∧i.natAbs<2 ^ 64):opI .Pow i j μ=.ok (.int (i ^ j.toNat)) μ:=by simp[opI,h]
theorem op_shr {i j:Int} {μ:Sto} (h:0≤j):opI .RShift i j μ=.ok (.int (i / 2 ^ j.toNat)) μ:=by simp[opI,h]
theorem Dl {op:Operator} {m:Mk} {i j:Int} {μ:Sto}:opD op m (.int i) (.int j) μ=opI op i j μ:=rfl
theorem _root_.Lp.CMul.left {i j:Int} (h:-(2 ^ 64)<i) (h2:i<2 ^ 64):CMul i j:=.inl ⟨h,h2⟩
theorem _root_.Lp.CMul.right {i j:Int} (h:-(2 ^ 64)<j) (h2:j<2 ^ 64):CMul i j:=.inr ⟨h,h2⟩
theorem fu (ns:List Int):gf (ns.map D.int)=some ns:=by
 induction ns with
 | nil=>rfl
 | cons n r ih=>simp[gf,ih]
theorem ku (ns:List Bool):gv (ns.map D.bl)=some ns:=by
 induction ns with
 | nil=>rfl
 | cons n r ih=>simp[gv,ih]
theorem Ax (i:Int):(D.int i).pure=true:=rfl
end Lr
namespace Lr
open Lp
open PySem
section
variable (φ : Phi)
noncomputable def Lc (o:Option (Option D)) (μ:Sto):Res D:=match o with
 | some (some d)=>.ok d μ
 | _=>.stuck
noncomputable def kB (op:Operator) (m:Mk) (b:Ex) (σ:Sl) (x:D) (μ:Sto):Res D:=(evE φ b σ μ).bind (opD op m x)
noncomputable def kNeg (x:D) (μ:Sto):Res D:=match x with
 | .int i=>.ok (.int (-i)) μ
 | _=>.stuck
noncomputable def kNot (x:D) (μ:Sto):Res D:=match x with
 | .bl b=>.ok (.bl (!b)) μ
 | _=>.stuck
noncomputable def Jr (b:Ex) (σ:Sl) (x:D) (μ:Sto):Res D:=match x with
 | .bl c=>if c=true then evE φ b σ μ else .ok (.bl false) μ
 | _=>.stuck
noncomputable def kOr (b:Ex) (σ:Sl) (x:D) (μ:Sto):Res D:=match x with
 | .bl c=>if c=true then .ok (.bl true) μ else evE φ b σ μ
 | _=>.stuck
noncomputable def Js (a b:Ex) (σ:Sl) (x:D) (μ:Sto):Res D:=match x with
 | .bl c=>if c=true then evE φ a σ μ else evE φ b σ μ
 | _=>.stuck
noncomputable def Ld (r:Cps) (σ:Sl) (x:D) (μ:Sto):Res D:=evC φ r x σ μ
noncomputable def G5 (r:Cps) (y:D) (σ:Sl) (z:D) (μ:Sto):Res D:=match z with
 | .bl b=>if b=true then evC φ r y σ μ else .ok (.bl false) μ
 | _=>.stuck
noncomputable def kCh (op:Cp) (x:D) (r:Cps) (σ:Sl) (y:D) (μ:Sto):Res D:=(cpD op x y μ).bind (G5 φ r y σ)
noncomputable def rg (keep:Bool) (f:Nat) (ds:List D) (μ:Sto):Res D:=jc keep μ.length (φ f ds μ)
noncomputable def kM (mt:Mt) (es:Exs) (σ:Sl) (x:D) (μ:Sto):Res D:=if jb mt x μ=true then(fi φ es σ μ).bind (mtD mt x)else .stuck
noncomputable def kIx (b:Ex) (σ:Sl) (x:D) (μ:Sto):Res D:=(evE φ b σ μ).bind (ixD x)
noncomputable def Jt (m:Mk) (hi:ExO) (σ:Sl) (x:D) (l:Option Int) (μ:Sto):Res D:=(evO φ hi σ μ).bind (slD m x l)
noncomputable def kSl (m:Mk) (lo hi:ExO) (σ:Sl) (x:D) (μ:Sto):Res D:=(evO φ lo σ μ).bind (Jt φ m hi σ x)
noncomputable def kTup (ds:List D) (μ:Sto):Res D:=.ok (.tup ds) μ
noncomputable def Ju (d:D) (ds:List D) (μ:Sto):Res (List D):=.ok (d::ds) μ
noncomputable def kEs (es:Exs) (σ:Sl) (d:D) (μ:Sto):Res (List D):=(fi φ es σ μ).bind (Ju d)
noncomputable def kInt (x:D) (μ:Sto):Res (Option Int):=match x with
 | .int i=>.ok (some i) μ
 | _=>.stuck
noncomputable def kOne (x:D) (μ:Sto):Res (List D):=.ok [x] μ
noncomputable def G6 (elt:Ex) (σ:Sl) (b:Bool) (μ:Sto):Res (List D):=if b=true then(evE φ elt σ μ).bind kOne else .ok [] μ
noncomputable def Le (cs:Exs) (elt:Ex) (μ:Sto) (σ:Sl):Res (List D):=(tx φ cs σ μ).bind (G6 φ elt σ)
noncomputable def o4 (tg:Tg) (cs:Exs) (elt:Ex) (σ0:Sl) (d:D) (μ:Sto):Res (List D):=gg (cz tg d σ0) (Le φ cs elt μ)
noncomputable def jy (m:Mk) (tg:Tg) (cs:Exs) (elt:Ex) (σ0:Sl) (w:List D×Gd) (μ:Sto):Res D:=(mapR w.2 (o4 φ tg cs elt σ0) w.1 μ).bind (mkL m)
noncomputable def kCs (es:Exs) (σ:Sl) (x:D) (μ:Sto):Res Bool:=match x with
 | .bl b=>if b=true then tx φ es σ μ else .ok false μ
 | _=>.stuck
noncomputable def kSeq (x:D) (μ:Sto):Res (List D×Gd):=match a8 μ x with
 | some w=>.ok w μ
 | none=>.stuck
noncomputable def kRng (x:D) (μ:Sto):Res (List D×Gd):=match x with
 | .int j=>if -(lim:Int)≤j∧j≤lim then .ok ((List.range j.toNat).map fun(i:Nat)=>D.int i,none) μ else .stuck
 | _=>.stuck
noncomputable def Bm (x y:D) (μ:Sto):Res (List D×Gd):=match x,y with
 | .int i,.int j=>if -(lim:Int)≤i∧i≤lim∧j≤lim ∧ -(lim:Int)≤j∧(j-i)≤lim then .ok ((List.range (j-i).toNat).map fun(k:Nat)=>D.int (i+k),none) μ else .stuck
 | _,_=>.stuck
noncomputable def Gq (b:Ex) (σ:Sl) (x:D) (μ:Sto):Res (List D×Gd):=(evE φ b σ μ).bind (Bm x)
noncomputable def yq (x y:D) (μ:Sto):Res (List D×Gd):=match a8 μ x,bg [] y with
 | some w,some ys=>.ok ((w.1.zip ys).map fun p=>.tup [p.1,p.2],w.2) μ
 | _,_=>.stuck
noncomputable def Lg (b:Ex) (σ:Sl) (x:D) (μ:Sto):Res (List D×Gd):=(evE φ b σ μ).bind (yq x)
noncomputable def kEnum (x:D) (μ:Sto):Res (List D×Gd):=match a8 μ x with
 | some w=>.ok ((List.range w.1.length |>.zip w.1).map fun(p:Nat×D)=>.tup [.int p.1,p.2],w.2) μ
 | none=>.stuck
noncomputable def kVals (x:D) (μ:Sto):Res (List D×Gd):=match x with
 | .loc n=>match μ[n]? with
  | some (.d kvs)=>.ok (kvs.map (·.2),none) (μ.set n .dead)
  | _=>.stuck
 | _=>.stuck
noncomputable def Lh (i:Nat) (σ:Sl) (d:D) (μ:Sto):Res Fl:=.ok (.nx (σ.set i (some d))) μ
noncomputable def Jv (o:Option Sl) (μ:Sto):Res Fl:=match o with
 | some σ'=>.ok (.nx σ') μ
 | none=>.stuck
noncomputable def Li (is:List Nat) (σ:Sl) (d:D) (μ:Sto):Res Fl:=Jv (cz (.many is) d σ) μ
noncomputable def kNx {α:Type} (σ:Sl) (_:α) (μ:Sto):Res Fl:=.ok (.nx σ) μ
noncomputable def Jw (σ:Sl) (d x:D) (y:D) (μ:Sto):Res Fl:=(D3 x y d μ).bind (kNx σ)
noncomputable def Jx (i:Ex) (σ:Sl) (d:D) (x:D) (μ:Sto):Res Fl:=(evE φ i σ μ).bind (Jw σ d x)
noncomputable def kSx (o i:Ex) (σ:Sl) (d:D) (μ:Sto):Res Fl:=(evE φ o σ μ).bind (Jx φ i σ d)
noncomputable def kIf (a b:Sms) (σ:Sl) (x:D) (μ:Sto):Res Fl:=match x with
 | .bl k=>if k=true then ik φ a σ μ else ik φ b σ μ
 | _=>.stuck
noncomputable def kLp (b:Sms) (μ:Sto) (σ:Sl):Res Fl:=ik φ b σ μ
noncomputable def fLp (tg:Tg) (b:Sms) (d:D) (σ:Sl) (μ:Sto):Res Fl:=gg (cz tg d σ) (kLp φ b μ)
noncomputable def Dm (tg:Tg) (b:Sms) (σ:Sl) (w:List D×Gd) (μ:Sto):Res Fl:=gx w.2 (fLp φ tg b) w.1 σ μ
noncomputable def kRet (d:D) (μ:Sto):Res Fl:=.ok (.rt d) μ
noncomputable def kSs (r:Sms) (fl:Fl) (μ:Sto):Res Fl:=match fl with
 | .nx σ'=>ik φ r σ' μ
 | fl=>.ok fl μ
end
section
variable {φ : Phi} {σ : Sl} {μ : Sto} {a b c e o i : Ex} {es : Exs} {m : Mk} {op : Operator} {r : Cps} {s : Sm} {rs : Sms}
theorem Ny {i:Nat}:evE φ (.var i) σ μ=Lc σ[i]? μ:=rfl
theorem Nz {d:D}:evE φ (.cst d) σ μ=.ok d μ:=rfl
theorem N0:evE φ (.bin op m a b) σ μ=(evE φ a σ μ).bind (kB φ op m b σ):=rfl
theorem N1:evE φ (.neg a) σ μ=(evE φ a σ μ).bind kNeg:=rfl
theorem N2:evE φ (.not a) σ μ=(evE φ a σ μ).bind kNot:=rfl
theorem N3:evE φ (.and a b) σ μ=(evE φ a σ μ).bind (Jr φ b σ):=rfl
theorem O7:evE φ (.or a b) σ μ=(evE φ a σ μ).bind (kOr φ b σ):=rfl
theorem N4:evE φ (.ite c a b) σ μ=(evE φ c σ μ).bind (Js φ a b σ):=rfl
theorem N5:evE φ (.cmp a r) σ μ=(evE φ a σ μ).bind (Ld φ r σ):=rfl
theorem Ay {α:Type} (x:Res α):(x.bind fun a μ=>.ok a μ)=x:=by cases x<;>rfl
theorem N6 {op:Cp} {x:D}:evC φ (.cons op e .nil) x σ μ=(evE φ e σ μ).bind (cpD op x):=by
 simp only[evC,Ay]
theorem Lj {op op':Cp} {x:D} {e':Ex}:evC φ (.cons op e (.cons op' e' r)) x σ μ=(evE φ e σ μ).bind (kCh φ op x (.cons op' e' r) σ):=by
 rw[evC]
 all_goals rfl
theorem Lk {keep:Bool} {f:Nat}:evE φ (.call keep f es) σ μ=(fi φ es σ μ).bind (rg φ keep f):=rfl
theorem N7 {b:Bt}:evE φ (.blt b m es) σ μ=(fi φ es σ μ).bind (btD b m):=rfl
theorem N8 {c:Cl}:evE φ (.isi a c) σ μ=(evE φ a σ μ).bind (zy c):=rfl
theorem Ll {mt:Mt}:evE φ (.meth mt o es) σ μ=(evE φ o σ μ).bind (kM φ mt es σ):=rfl
theorem O8:evE φ (.ix a b) σ μ=(evE φ a σ μ).bind (kIx φ b σ):=rfl
theorem O9 {lo hi:ExO}:evE φ (.sl m a lo hi) σ μ=(evE φ a σ μ).bind (kSl φ m lo hi σ):=rfl
theorem N9:evE φ (.tup es) σ μ=(fi φ es σ μ).bind kTup:=rfl
theorem Oa:evE φ (.lst m es) σ μ=(fi φ es σ μ).bind (mkL m):=rfl
theorem Ob {t:Bool}:evE φ (.dic t es) σ μ=(fi φ es σ μ).bind (K8 t):=rfl
theorem Lm {cap:List Nat} {nl:Nat} {tg:Tg} {it:It} {cs:Exs} {elt:Ex}:evE φ (.comp m cap nl tg it cs elt) σ μ=(evI φ it σ μ).bind (jy φ m tg cs elt (cap.map (fun i=>(σ[i]?).getD none)++List.replicate nl none)):=rfl
theorem Ln:fi φ .nil σ μ=.ok [] μ:=rfl
theorem Jy:fi φ (.cons e es) σ μ=(evE φ e σ μ).bind (kEs φ es σ):=rfl
theorem Pa:evO φ .no σ μ=.ok none μ:=rfl
theorem Pb:evO φ (.so e) σ μ=(evE φ e σ μ).bind kInt:=rfl
theorem Lo:tx φ .nil σ μ=.ok true μ:=rfl
theorem Jz:tx φ (.cons e es) σ μ=(evE φ e σ μ).bind (kCs φ es σ):=rfl
theorem Oc:evI φ (.seq e) σ μ=(evE φ e σ μ).bind kSeq:=rfl
theorem Od:evI φ (.rng e) σ μ=(evE φ e σ μ).bind kRng:=rfl
theorem Lq:evI φ (.rng2 a b) σ μ=(evE φ a σ μ).bind (Gq φ b σ):=rfl
theorem Oe:evI φ (.zip a b) σ μ=(evE φ a σ μ).bind (Lg φ b σ):=rfl
theorem Ls:evI φ (.enum a) σ μ=(evE φ a σ μ).bind kEnum:=rfl
theorem Lu:evI φ (.vals a) σ μ=(evE φ a σ μ).bind kVals:=rfl
theorem Of {i:Nat}:evS φ (.set i e) σ μ=(evE φ e σ μ).bind (Lh i σ):=rfl
theorem Og {is:List Nat}:evS φ (.unp is e) σ μ=(evE φ e σ μ).bind (Li is σ):=rfl
theorem Lv:evS φ (.setx o i e) σ μ=(evE φ e σ μ).bind (kSx φ o i σ):=rfl
theorem Pc:evS φ (.ex e) σ μ=(evE φ e σ μ).bind (kNx σ):=rfl
theorem Oh {x y:Sms}:evS φ (.ite c x y) σ μ=(evE φ c σ μ).bind (kIf φ x y σ):=rfl
theorem Lw {tg:Tg} {it:It} {b:Sms}:evS φ (.loop tg it b) σ μ=(evI φ it σ μ).bind (Dm φ tg b σ):=rfl
theorem Oi:evS φ (.ret e) σ μ=(evE φ e σ μ).bind kRet:=rfl
theorem Lx:evS φ .pass σ μ=.ok (.nx σ) μ:=rfl
theorem Oj:evS φ .brk σ μ=.ok (.bk σ) μ:=rfl
theorem Ly:evS φ .cont σ μ=.ok (.ct σ) μ:=rfl
theorem Lz:ik φ .nil σ μ=.ok (.nx σ) μ:=rfl
theorem J0:ik φ (.cons s rs) σ μ=(evS φ s σ μ).bind (kSs φ rs):=rfl
theorem dm {f:Nat} {ds:List D} {d:D} {μ':Sto} (h:φ f ds μ=.ok d μ') (hd:d.pure=true) (hl:μ'.length=μ.length) (hr:mz μ'):rg φ false f ds μ=.ok d μ':=by
 rw[rg,h,uy hd hl hr]
theorem J1 {mt:Mt} {x:D} (h:jb mt x μ=true):kM φ mt es σ x μ=(fi φ es σ μ).bind (mtD mt x):=by rw[kM,if_pos h]
theorem Gr {d:D}:Lc (some (some d)) μ=.ok d μ:=rfl
theorem G7 {i:Int}:kNeg (.int i) μ=.ok (.int (-i)) μ:=rfl
theorem J2 {b:Bool}:kNot (.bl b) μ=.ok (.bl (!b)) μ:=rfl
theorem L0 {b:Ex}:Jr φ b σ (.bl true) μ=evE φ b σ μ:=rfl
theorem L3 {b:Ex}:Jr φ b σ (.bl false) μ=.ok (.bl false) μ:=rfl
theorem Ol {b:Ex}:kOr φ b σ (.bl true) μ=.ok (.bl true) μ:=rfl
theorem Om {b:Ex}:kOr φ b σ (.bl false) μ=evE φ b σ μ:=rfl
theorem L4:Js φ a b σ (.bl true) μ=evE φ a σ μ:=rfl
theorem L5:Js φ a b σ (.bl false) μ=evE φ b σ μ:=rfl
theorem L6 {y:D}:G5 φ r y σ (.bl true) μ=evC φ r y σ μ:=rfl
theorem L7 {y:D}:G5 φ r y σ (.bl false) μ=.ok (.bl false) μ:=rfl
theorem Oo:kCs φ es σ (.bl true) μ=tx φ es σ μ:=rfl
theorem Oq:kCs φ es σ (.bl false) μ=.ok false μ:=rfl
theorem L8 {elt:Ex}:G6 φ elt σ true μ=(evE φ elt σ μ).bind kOne:=rfl
theorem L9 {elt:Ex}:G6 φ elt σ false μ=.ok [] μ:=rfl
theorem G8 {i:Int}:kInt (.int i) μ=.ok (some i) μ:=rfl
theorem Ot {x y:Sms}:kIf φ x y σ (.bl true) μ=ik φ x σ μ:=rfl
theorem Ou {x y:Sms}:kIf φ x y σ (.bl false) μ=ik φ y σ μ:=rfl
theorem Ma {σ':Sl}:kSs φ rs (.nx σ') μ=ik φ rs σ' μ:=rfl
theorem Mb {d:D}:kSs φ rs (.rt d) μ=.ok (.rt d) μ:=rfl
theorem Mc {σ':Sl}:kSs φ rs (.bk σ') μ=.ok (.bk σ') μ:=rfl
theorem Md {σ':Sl}:kSs φ rs (.ct σ') μ=.ok (.ct σ') μ:=rfl
theorem Gs {σ':Sl}:Jv (some σ') μ=.ok (.nx σ') μ:=rfl
theorem G9 {ds:List D}:kSeq (.tup ds) μ=.ok (ds,none) μ:=rfl
theorem Ha {ds:List D}:kSeq (.lst ds) μ=.ok (ds,none) μ:=rfl
theorem Dn {j:Int} (h:-1000000≤j∧j≤1000000):kRng (.int j) μ=.ok ((List.range j.toNat).map fun(i:Nat)=>D.int i,none) μ:=by
 have:=vy
 simp only[kRng]
 rw[if_pos ⟨by lia,by lia⟩]
theorem Gu {i:Nat} {d:D}:cz (.one i) d σ=some (σ.set i (some d)):=rfl
theorem Ov {i j:Int}:cpD .lt (.int i) (.int j) μ=.ok (.bl (decide (i<j))) μ:=rfl
theorem Ow {i j:Int}:cpD .le (.int i) (.int j) μ=.ok (.bl (decide (i≤j))) μ:=rfl
theorem Ox {i j:Int}:cpD .gt (.int i) (.int j) μ=.ok (.bl (decide (j<i))) μ:=rfl
theorem Oy {i j:Int}:cpD .ge (.int i) (.int j) μ=.ok (.bl (decide (j≤i))) μ:=rfl
theorem Me {i j:Int}:cpD .eq (.int i) (.int j) μ=.ok (.bl (decide (i=j))) μ:=rfl
theorem Dp {x y:D} (hx:x.pure=true) (hy:y.pure=true):cpD .ne x y μ=.ok (.bl (!deq x y)) μ:=by simp[cpD,hx,hy]
theorem Mf {i j:Int}:cpD .ne (.int i) (.int j) μ=.ok (.bl (!decide (i=j))) μ:=Dp rfl rfl
theorem Mg {i j:Bool}:cpD .ne (.bl i) (.bl j) μ=.ok (.bl (!(i==j))) μ:=Dp rfl rfl
theorem bt_len {x:D} {xs:List D} (h:bg μ x=some xs):btD .len m [x] μ=.ok (.int xs.length) μ:=by simp[btD,seq1,h]
theorem bt_tuple {x:D} {xs:List D} (h:bg μ x=some xs):btD .tuple m [x] μ=.ok (.tup xs) μ:=by simp[btD,seq1,h]
theorem bt_list {x:D} {xs:List D} (h:bg μ x=some xs):btD .list m [x] μ=mkL m xs μ:=by simp[btD,seq1,h]
theorem bt_sum {x:D} {xs:List D} {ns:List Int} (h:bg μ x=some xs) (h2:gf xs=some ns):btD .sum m [x] μ=.ok (.int ns.sum) μ:=by simp[btD,zw,h,h2]
theorem bt_all {x:D} {xs:List D} {ns:List Bool} (h:bg μ x=some xs) (h2:gv xs=some ns):btD .all m [x] μ=.ok (.bl (ns.all id)) μ:=by simp[btD,vz,h,h2]
theorem bt_min {i j:Int}:btD .min m [.int i,.int j] μ=.ok (.int (min i j)) μ:=by
 simp only[btD,minD]
 congr 2
 split<;>lia
theorem bt_max {i j:Int}:btD .max m [.int i,.int j] μ=.ok (.int (max i j)) μ:=by
 simp only[btD,maxD]
 congr 2
 split<;>lia
theorem o5 {ds:List D}:bg μ (.tup ds)=some ds:=rfl
theorem ay {ds:List D}:bg μ (.lst ds)=some ds:=rfl
theorem g6 {ds:List D}:mkL .z ds μ=.ok (.lst ds) μ:=rfl
theorem Bn {x:D} {xs:List D} {k:Nat} {d:D} (h:bg μ x=some xs) (hd:xs[k]? = some d):ixD x (.int k) μ=.ok d μ:=by
 have hk:k<xs.length:=(AK.mp hd).1
 have e:ixN xs.length (k:Int)=some k:=by simp[ixN,hk]
 simp only[ixD,h,e,hd]
theorem Gv {x:D} {xs:List D} {i:Int} {d:D} (h:bg μ x=some xs) (hi:0≤i) (hd:xs[i.toNat]? = some d):ixD x (.int i) μ=.ok d μ:=by
 have hk:i.toNat<xs.length:=(AK.mp hd).1
 have e:ixN xs.length i=some i.toNat:=by simp[ixN,hi,show i<xs.length by lia]
 simp only[ixD,h,e,hd]
theorem J3 {i j:Nat} {a b:D}:cz (.many [i,j]) (.tup [a,b]) σ=some ((σ.set i (some a)).set j (some b)):=rfl
theorem J4 {i j k:Nat} {a b c:D}:cz (.many [i,j,k]) (.tup [a,b,c]) σ=some (((σ.set i (some a)).set j (some b)).set k (some c)):=rfl
theorem J5 {i j k l:Nat} {a b c d:D}:cz (.many [i,j,k,l]) (.tup [a,b,c,d]) σ=some ((((σ.set i (some a)).set j (some b)).set k (some c)).set l (some d)):=rfl
theorem J6 {i j k l m:Nat} {a b c d e:D}:cz (.many [i,j,k,l,m]) (.tup [a,b,c,d,e]) σ=some (((((σ.set i (some a)).set j (some b)).set k (some c)).set l (some d)).set m (some e)):=rfl
theorem Dq {α:Type} {xs:List α} {en:α→D} {k:Nat} {a:α} (h:xs[k]? = some a):ixD (.lst (xs.map en)) (.int k) μ=.ok (en a) μ:=Bn ay (by rw[BN,h];rfl)
theorem yr {α:Type} {tg:Tg} {b:Sms} {xs:List α} {en:α→D} (I:Nat→Sl→Prop) (h0:I 0 σ) (st:∀(k:Nat) a σ,xs[k]? = some a→I k σ→∃σ',fLp φ tg b (en a) σ μ=.ok (.nx σ') μ∧I (k+1) σ') :
  ∃σ',Dm φ tg b σ (xs.map en,none) μ=.ok (.nx σ') μ∧I xs.length σ':=by
 obtain⟨σ',μ',e,rfl,i⟩:=mq (f:=fLp φ tg b) (fun k σ μ'=>μ'=μ∧I k σ) (ds:=xs.map en) (σ:=σ) (μ:=μ) 0 ⟨rfl,h0⟩ fun j d σ μ' e ⟨q,i⟩=>by
  subst q
  rw[BN]at e
  cases ex:xs[j]? with
  | none=>rw[ex]at e;cases e
  | some a =>
   rw[ex]at e
   cases e
   obtain⟨σ',e',i'⟩:=st j a σ ex (by simpa using i)
   exact⟨σ',_,e',rfl,by simpa using i'⟩
 exact⟨σ',e,by simpa using i⟩
theorem comp_map {α:Type} {tg:Tg} {cs:Exs} {elt:Ex} {σ0:Sl} {xs:List α} {en:α→D} {g:α→D} (h:∀a∈xs,o4 φ tg cs elt σ0 (en a) μ=.ok [g a] μ):jy φ m tg cs elt σ0 (xs.map en,none) μ=mkL m (xs.map g) μ:=by
 have e:mapR none (o4 φ tg cs elt σ0) (xs.map en) μ=.ok (xs.map g) μ:=by
  induction xs with
  | nil=>simp[mapR]
  | cons a r ih =>
   simp only[AZ,mapR,qe,if_true,h a AM,Res.cg,ih fun x hx=>h x (AN _ hx)]
   rfl
 rw[jy]
 show(mapR none _ (xs.map en) μ).bind _=_
 rw[e];rfl
theorem gr {α:Type} {tg:Tg} {cs:Exs} {elt:Ex} {σ0:Sl} {xs:List α} {en:α→D} {g:α→D} {p:α→Bool} (h:∀a∈xs,o4 φ tg cs elt σ0 (en a) μ=.ok (if p a=true then [g a]else []) μ):jy φ m tg cs elt σ0 (xs.map en,none) μ=mkL m ((xs.filter p).map g) μ:=by
 have e:mapR none (o4 φ tg cs elt σ0) (xs.map en) μ=.ok ((xs.filter p).map g) μ:=by
  induction xs with
  | nil=>simp[mapR]
  | cons a r ih =>
   simp only[AZ,mapR,qe,if_true,h a AM,Res.cg,ih fun x hx=>h x (AN _ hx)]
   by_cases hp:p a=true
   ·simp[hp]
   ·simp[hp]
 rw[jy]
 show(mapR none _ (xs.map en) μ).bind _=_
 rw[e];rfl
noncomputable def many {S α:Type} (G:S→α×S):Nat→S→List α×S
 | 0,s=>([],s)
 | n+1,s=>((G s).1::(many G n (G s).2).1,(many G n (G s).2).2)
theorem Oz {x:D}:kB φ op m b σ x μ=(evE φ b σ μ).bind (opD op m x):=rfl
theorem J7 {x:D}:Ld φ r σ x μ=evC φ r x σ μ:=rfl
theorem Mh {o:Cp} {x y:D}:kCh φ o x r σ y μ=(cpD o x y μ).bind (G5 φ r y σ):=rfl
theorem Mi {x:D}:kIx φ b σ x μ=(evE φ b σ μ).bind (ixD x):=rfl
theorem J8 {hi:ExO} {x:D} {l:Option Int}:Jt φ m hi σ x l μ=(evO φ hi σ μ).bind (slD m x l):=rfl
theorem Mj {lo hi:ExO} {x:D}:kSl φ m lo hi σ x μ=(evO φ lo σ μ).bind (Jt φ m hi σ x):=rfl
theorem J9 {ds:List D}:kTup ds μ=.ok (.tup ds) μ:=rfl
theorem Ka {d:D} {ds:List D}:Ju d ds μ=.ok (d::ds) μ:=rfl
theorem Ml {d:D}:kEs φ es σ d μ=(fi φ es σ μ).bind (Ju d):=rfl
theorem Kb {x:D}:kOne x μ=.ok [x] μ:=rfl
theorem Kc {cs:Exs} {elt:Ex}:Le φ cs elt μ σ=(tx φ cs σ μ).bind (G6 φ elt σ):=rfl
theorem Hb {x:D}:Gq φ b σ x μ=(evE φ b σ μ).bind (Bm x):=rfl
theorem Kd {x:D}:Lg φ b σ x μ=(evE φ b σ μ).bind (yq x):=rfl
theorem Ke {i:Nat} {d:D}:Lh i σ d μ=.ok (.nx (σ.set i (some d))) μ:=rfl
theorem Kf {is:List Nat} {d:D}:Li is σ d μ=Jv (cz (.many is) d σ) μ:=rfl
theorem Kg {d:D}:kNx σ d μ=.ok (.nx σ) μ:=rfl
theorem Kh {d:Unit}:kNx σ d μ=.ok (.nx σ) μ:=rfl
theorem Ki {d x y:D}:Jw σ d x y μ=(D3 x y d μ).bind (kNx σ):=rfl
theorem Kj {i:Ex} {d x:D}:Jx φ i σ d x μ=(evE φ i σ μ).bind (Jw σ d x):=rfl
theorem Mm {o i:Ex} {d:D}:kSx φ o i σ d μ=(evE φ o σ μ).bind (Jx φ i σ d):=rfl
theorem Mn {b:Sms}:kLp φ b μ σ=ik φ b σ μ:=rfl
theorem Kk {d:D}:kRet d μ=.ok (.rt d) μ:=rfl
theorem Hc {n:Nat}:List.replicate (n+1) (none:Option D)=none::List.replicate n none:=rfl
theorem Hd:List.replicate 0 (none:Option D)=[]:=rfl
end
section
variable {φ : Phi} {σ : Sl} {μ : Sto}
noncomputable def Mo (φ:Phi) (b:Ex) (σ:Sl) (x:D) (μ:Sto):Res D:=(evE φ b σ μ).bind (Im x)
noncomputable def He (σ:Sl) (x y z:D) (μ:Sto):Res Fl:=(D3 x y z μ).bind (kNx σ)
noncomputable def Hf (op:Operator) (σ:Sl) (x y old d:D) (μ:Sto):Res Fl:=(K7 op old d μ).bind (He σ x y)
noncomputable def Kl (φ:Phi) (op:Operator) (e:Ex) (σ:Sl) (x y old:D) (μ:Sto):Res Fl:=(evE φ e σ μ).bind (Hf op σ x y old)
noncomputable def Km (φ:Phi) (op:Operator) (e:Ex) (σ:Sl) (x y:D) (μ:Sto):Res Fl:=(ixL x y μ).bind (Kl φ op e σ x y)
noncomputable def Mp (φ:Phi) (op:Operator) (i e:Ex) (σ:Sl) (x:D) (μ:Sto):Res Fl:=(evE φ i σ μ).bind (Km φ op e σ x)
theorem O0 {a b:Ex}:evE φ (.dix a b) σ μ=(evE φ a σ μ).bind (Mo φ b σ):=rfl
theorem Kn {b:Ex} {x:D}:Mo φ b σ x μ=(evE φ b σ μ).bind (Im x):=rfl
theorem Mq {op:Operator} {o i e:Ex}:evS φ (.augx op o i e) σ μ=(evE φ o σ μ).bind (Mp φ op i e σ):=rfl
theorem Ko {op:Operator} {i e:Ex} {x:D}:Mp φ op i e σ x μ=(evE φ i σ μ).bind (Km φ op e σ x):=rfl
theorem Kp {op:Operator} {e:Ex} {x y:D}:Km φ op e σ x y μ=(ixL x y μ).bind (Kl φ op e σ x y):=rfl
theorem Kq {op:Operator} {e:Ex} {x y old:D}:Kl φ op e σ x y old μ=(evE φ e σ μ).bind (Hf op σ x y old):=rfl
theorem Hg {x y:D} {i j:Int}:Hf .Add σ x y (.int i) (.int j) μ=He σ x y (.int (i+j)) μ:=rfl
theorem Hh {x y:D} {i j:Int}:Hf .Sub σ x y (.int i) (.int j) μ=He σ x y (.int (i-j)) μ:=rfl
theorem Kr {x y z:D}:He σ x y z μ=(D3 x y z μ).bind (kNx σ):=rfl
end
section
variable {μ : Sto}
theorem Mr {α β:Type} (a:α) (f:α→Sto→Res β):(Res.ok a μ).bind f=f a μ:=rfl
theorem Ms {α β:Type} (a:α) (k:α→Res β):gg (some a) k=k a:=rfl
theorem Pd (d:D):finD (.rt d) μ=.ok d μ:=rfl
theorem Pe (σ:Sl):finD (.nx σ) μ=.ok .non μ:=rfl
theorem Pf {α β:Type} (f:α→β) (a:α) (l:List α):(a::l).map f=f a::l.map f:=rfl
theorem Pg {α β:Type} (f:α→β):([]:List α).map f=[]:=rfl
theorem Ph {α:Type} (a:α) (l m:List α):a::l++m=a::(l++m):=rfl
theorem Pj {α:Type} (m:List α):[]++m=m:=rfl
theorem Ks {α:Type} (a:α) (l:List α):(a::l)[0]? = some a:=rfl
theorem Kt {α:Type} (a:α) (l:List α) (i:Nat):(a::l)[i+1]? = l[i]?:=rfl
theorem Pk {α:Type} (a b:α) (l:List α):(a::l).set 0 b=b::l:=rfl
theorem Pl {α:Type} (a b:α) (l:List α) (i:Nat):(a::l).set (i+1) b=a::l.set i b:=rfl
theorem Pm {α:Type} (a b:α):(some a).getD b=a:=rfl
theorem Pn {op:Operator} {m:Mk} {i j:Int}:opD op m (.int i) (.int j) μ=opI op i j μ:=Dl
theorem Po {i j:Int}:opI .Add i j μ=.ok (.int (i+j)) μ:=op_add
theorem Pp {i j:Int}:opI .Sub i j μ=.ok (.int (i-j)) μ:=op_sub
theorem Pq {d:D} {b:Nat}:jc true b (.ok d μ)=.ok d μ:=uz
end
end Lr
local macro_rules | `(tactic| simp! only [$ls,*]) => do
  let mut a := ls.getElems
  for s in "Lr.Ny Lr.Nz Lr.N0 Lr.N1 Lr.N2 Lr.N3 Lr.O7 Lr.N4 Lr.N5 Lr.N6 Lr.Lj Lr.Lk Lr.N7 Lr.N8 Lr.Ll Lr.O8 Lr.O9 Lr.N9 Lr.Oa Lr.Ob Lr.Lm Lr.Ln Lr.Jy Lr.Pa Lr.Pb Lr.Lo Lr.Jz Lr.Oc Lr.Od Lr.Lq Lr.Oe Lr.Ls Lr.Lu Lr.Of Lr.Og Lr.Lv Lr.Pc Lr.Oh Lr.Lw Lr.Oi Lr.Lx Lr.Oj Lr.Ly Lr.Lz Lr.J0 Lr.Gr Lr.G7 Lr.J2 Lr.L0 Lr.L3 Lr.Ol Lr.Om Lr.L4 Lr.L5 Lr.L6 Lr.L7 Lr.Oo Lr.Oq Lr.L8 Lr.L9 Lr.G8 Lr.Ot Lr.Ou Lr.Ma Lr.Mb Lr.Mc Lr.Md Lr.Gs Lr.G9 Lr.Ha Lr.Gu Lr.Ov Lr.Ow Lr.Ox Lr.Oy Lr.Me Lr.Mf Lr.Mg Lr.bt_min Lr.bt_max Lr.g6 Lr.J3 Lr.J4 Lr.J5 Lr.J6 Lr.Oz Lr.J7 Lr.Mh Lr.Mi Lr.J8 Lr.Mj Lr.J9 Lr.Ka Lr.Ml Lr.Kb Lr.Kc Lr.Hb Lr.Kd Lr.Ke Lr.Kf Lr.Kg Lr.Kh Lr.Ki Lr.Kj Lr.Mm Lr.Mn Lr.Kk Lr.Hc Lr.Hd Lr.O0 Lr.Kn Lr.Mq Lr.Ko Lr.Kp Lr.Kq Lr.Hg Lr.Hh Lr.Kr Lr.Mr Lr.Ms Lr.Pd Lr.Pe Lr.Pf Lr.Pg Lr.Ph Lr.Pj Lr.Ks Lr.Kt Lr.Pk Lr.Pl Lr.Pm Lr.Pn Lr.Po Lr.Pp Lr.Pq Nat.reduceSub decide_true decide_false Bool.not_true Bool.not_false".splitOn " " do
    a := a.push ⟨(← `(Lean.Parser.Tactic.simpLemma| $(Lean.mkIdent ((s.splitOn ".").foldl Lean.Name.mkStr .anonymous)):ident)).raw⟩
  `(tactic| simp only [$a,*])
namespace Lr
open Lp
open PySem
noncomputable def Lf (cs:List Int):O:=.l (cs.reverse.map D.int)
@[simp] theorem Mu (cs:List Int):noR (Lf cs)=true:=rfl
end Lr
namespace Lr
open Lp
open PySem
section
variable {n : Nat} {μ : Sto}
theorem g7 (ns:List Int):(ns.map D.int).all flat=true:=by
 rw[FC,AT]
 exact fun _ _=>rfl
theorem any_ints (ns:List Int) (k:Int):((ns.map D.int).any fun y=>deq y (.int k))=decide (k∈ns):=by
 rw[List.any_map]
 induction ns with
 | nil=>rfl
 | cons a r ih =>
  simp only[CQ,ih,Function.comp,deq,AJ]
  by_cases h:a=k
  ·simp[h]
  ·simp[h,Ne.symm h]
end
end Lr
namespace Lr
open Lp
open PySem
theorem Hi (xs:List D) (k:Nat):cut xs none (some (k:Int))=xs.take k:=by
 simp only[cut,sIx]
 rw[if_neg (by lia)]
 simp[List.take_eq_take_iff]
theorem Az (xs:List D) (k:Nat):cut xs (some (k:Int)) none=xs.drop k:=by
 simp only[cut,sIx]
 rw[if_neg (by lia)]
 by_cases h:k≤xs.length
 ·rw[BU,Nat.min_eq_left h,DH (by simp)]
 ·rw[BU,Nat.min_eq_right (by lia),List.drop_eq_nil_of_le (show xs.length≤k by lia)];simp
section
variable {n : Nat} {μ ρ : Sto} {m : Mk} {φ : Phi} {σ : Sl} {es : Exs}
theorem Dr {xs:List D} {k:Nat}:slD m (.tup xs) (some (k:Int)) none μ=.ok (.tup (xs.drop k)) μ:=by rw[slD,Az]
theorem Ku {xs:List D}:slD m (.tup xs) (some 1) none μ=.ok (.tup (xs.drop 1)) μ:=Dr (k:=1)
theorem d7 {f:Nat} {ds:List D} {d:D} (h:φ f ds μ=.ok d (μ++ρ)) (hd:d.pure=true) (hr:mz μ):rg φ false f ds μ=.ok d μ:=by
 rw[rg,h]
 have e:(μ++ρ).take μ.length=μ:=by simp
 have hr':μ.all (gi μ.length)=true:=hr
 simp only[jc,AQ,if_false,e,gc _ 8 d hd,hr',and_self,if_true]
theorem fb {o:O}:(μ++[o])[μ.length]? = some o:=by simp
theorem iz {o o':O}:(μ++[o]).set μ.length o'=μ++[o']:=by simp
theorem Hj {ds:List D} (h:ds.all (D.pureN 8)=true):mkL .l ds μ=.ok (.loc μ.length) (μ++[.l ds]):=by simp only[mkL,h,if_true]
theorem mr {ds:List D}:bg (μ++[.l ds]) (.loc μ.length)=some ds:=by simp only[bg,fb]
theorem yt {mt:Mt} {ds:List D} (h:∀d μ,jb mt d μ=(Lp.listOf μ d).isSome):kM φ mt es σ (.loc μ.length) (μ++[.l ds])=(fi φ es σ (μ++[.l ds])).bind (mtD mt (.loc μ.length)):=by
 refine J1 ?_
 rw[h]
 simp only[Lp.listOf,fb];rfl
theorem Bo {ds:List D}:kM φ .append es σ (.loc μ.length) (μ++[.l ds])=(fi φ es σ (μ++[.l ds])).bind (mtD .append (.loc μ.length)):=yt fun _ _=>rfl
theorem Bp {ds:List D} {d:D} (hd:d.pure=true) (hl:ds.length<1000000):mtD .append (.loc μ.length) [d] (μ++[.l ds])=.ok .non (μ++[.l (ds++[d])]):=by
 have:=vy
 simp only[mtD,v8,fb,kf,mtL,fw,fits,hd,putL,iz]
 rw[if_pos ⟨trivial,by lia⟩]
theorem yu {α:Type} {tg:Tg} {b:Sms} {xs:List α} {en:α→D} (I:Nat→Sl→Sto→Prop) (h0:I 0 σ μ) (st:∀(k:Nat) a σ μ,xs[k]? = some a→I k σ μ→∃σ' μ',fLp φ tg b (en a) σ μ=.ok (.nx σ') μ'∧I (k+1) σ' μ') :
  ∃σ' μ',Dm φ tg b σ (xs.map en,none) μ=.ok (.nx σ') μ'∧I xs.length σ' μ':=by
 obtain⟨σ',μ',e,i⟩:=mq (f:=fLp φ tg b) I (ds:=xs.map en) (σ:=σ) (μ:=μ) 0 h0 fun j d σ μ' e i=>by
  rw[BN]at e
  cases ex:xs[j]? with
  | none=>rw[ex]at e;cases e
  | some a =>
   rw[ex]at e
   cases e
   obtain⟨σ',μ'',e',i'⟩:=st j a σ μ' ex (by simpa using i)
   exact⟨σ',μ'',e',by simpa using i'⟩
 exact⟨σ',μ',e,by simpa using i⟩
end
end Lr
namespace Lr
open Lp
open PySem
noncomputable def sq (b:Bool) (ds:List D):D:=match b with
 | true=>.lst ds
 | false=>.tup ds
end Lr
namespace Lr
open Lp
open PySem
noncomputable def bf (c k:Int):Int :=
 let near:=((c+7919*k+101) % 2147483647)*((c+7919*k+101) % 2147483647) % 2147483647
 near*48271 % 2147483629 / 7
section
variable {n : Nat} {μ ρ : Sto}
theorem Ds (ns:List Int) (k:Nat):ax GL (n+1) d5 [.lst (ns.map D.int),.int k] μ=.ok (.int (ns.getD k 0)) μ:=by
 rw[ar uu,run_eq rfl]
 by_cases h:k<ns.length
 ·have h':(k:Int)<(ns.length:Nat):=by lia
  have e:ns[k]? = some ns[k]:=AC h
  have e2:ns.getD k 0=ns[k]:=by rw[AU,e];rfl
  simp! only[D_law_cell,bt_len ay,AV,h',Dq e,e2]
 ·have h':¬(k:Int)<(ns.length:Nat):=by lia
  have e2:ns.getD k 0=0:=by rw[AU,DO (by lia)];rfl
  simp! only[D_law_cell,bt_len ay,AV,h',e2]
theorem Dt (c k:Int):ax GL (n+1) av [.int c,.int k] μ=.ok (.int (bf c k)) μ:=by
 rw[ar uv,run_eq rfl]
 have a1:(0:Int)≤(c+7919*k+101) % 2147483647:=CV _ (by decide)
 have a2:(c+7919*k+101) % 2147483647<2147483647:=CU _ (by decide)
 have hm:CMul ((c+7919*k+101) % 2147483647) ((c+7919*k+101) % 2147483647):=.left (by lia) (by lia)
 have hm0:∀x,CMul 7919 x:=fun x=>.left (by decide) (by decide)
 have hm1:∀x,CMul x 48271:=fun x=>.right (by decide) (by decide)
 simp! only[D_law_stir,op_mul (hm0 k),op_mod (show(0:Int)<2147483647 by decide),op_mul hm,op_mul (hm1 _),op_mod (show(0:Int)<2147483629 by decide),kq (show(0:Int)<7 by decide) (by decide),bf]
end
end Lr
namespace Lr
open Lp
open PySem
theorem mw {b c:Nat} (h:b≤c):∀(k:Nat) (d:D),D.belowN b k d=true→D.belowN c k d=true
 | 0,d,e=>by cases d<;>simp_all[D.belowN];lia
 | k+1,d,e=>by
  cases d with
  | tup ds =>
   simp only[D.belowN,AT]at e ⊢
   exact fun x hx=>mw h k x (e x hx)
  | lst ds =>
   simp only[D.belowN,AT]at e ⊢
   exact fun x hx=>mw h k x (e x hx)
  | loc n=>simp_all[D.belowN];lia
  | _=>rfl
section
variable {n : Nat} {μ ρ : Sto} {φ : Phi} {es : Exs} {σ : Sl}
theorem sv (hr:mz μ) (ds:List D):mz (μ++[.l ds]):=by
 unfold mz at hr ⊢
 rw[AT]at hr ⊢
 intro o ho
 rcases Ev.mp ho with h | h
 ·have:=hr o h
  cases o with
  | r xs =>
   simp only[gi,AT]at this ⊢
   exact fun x hx=>mw (by simp) 8 x (this x hx)
  | _=>rfl
 ·simp only[FL]at h
  subst h;rfl
end
end Lr
namespace Lr
open Lp
open PySem
structure Tie where
 one:Nat
 other:Nat
 bound:Int
 price:Int
noncomputable def o6 (t:Tie):D:=.tup [.int t.one,.int t.other,.int t.bound,.int t.price]
noncomputable def va (m:Nat) (ts:List Tie):D:=.tup [.int m,.tup (ts.map o6)]
structure TieOk (m:Nat) (t:Tie):Prop where
 one:t.one<m
 other:t.other<m
 p0:0≤t.price
 p1:t.price<2 ^ 64
theorem yv (t:Tie):(o6 t).pure=true:=rfl
theorem A0 (m:Nat) (ts:List Tie):(va m ts).pure=true:=by
 show D.pureN 8 (.tup [.int m,.tup (ts.map o6)])=true
 rw[su]
 simp only[BO,jx,Bool.true_and,su,List.all_nil,Bool.and_true]
 rw[AT]
 intro x hx
 obtain⟨t,_,rfl⟩:=GI.mp hx
 rfl
section
variable {n : Nat} {μ ρ : Sto}
theorem Du {ns:List Int} {i:Int} (h0:0≤i) (h1:i<ns.length):∃v,v∈ns∧∀μ,ixD (.lst (ns.map D.int)) (.int i) μ=.ok (.int v) μ:=by
 have hk:i.toNat<ns.length:=by omega
 refine⟨ns[i.toNat],BZ hk,fun μ=>?_⟩
 exact Gv ay h0 (by rw[BN,AC hk];rfl)
theorem Gw {N k a:Nat} (h:(List.range N)[k]? = some a):a=k∧k<N:=by
 obtain⟨h1,h2⟩:=AK.mp h
 simp at h1 h2
 omega
theorem Gx {m:Nat} {ts:List Tie}:ixD (va m ts) (.int 1) μ=.ok (.tup (ts.map o6)) μ:=rfl
theorem Kv {t:Tie}:ixD (o6 t) (.int 2) μ=.ok (.int t.bound) μ:=rfl
theorem rh {i j k l:Nat} {t:Tie} {σ:Sl}:cz (.many [i,j,k,l]) (o6 t) σ=some ((((σ.set i (some (.int t.one))).set j (some (.int t.other))).set k (some (.int t.bound))).set l (some (.int t.price))):=rfl
theorem yw {α β:Type} {f:α→D} {g:β→D}:∀(xs:List α) (ys:List β),((xs.map f).zip (ys.map g)).map (fun p=>D.tup [p.1,p.2])=(xs.zip ys).map fun p=>D.tup [f p.1,g p.2]
 | [],_=>by simp
 | _::_,[]=>by simp
 | x::xs,y::ys=>by simp[yw xs ys]
theorem A1 {α β:Type} {f:α→D} {g:β→D} {xs:List α} {ys:List β}:yq (.tup (xs.map f)) (.tup (ys.map g)) μ=.ok ((xs.zip ys).map (fun p=>D.tup [f p.1,g p.2]),none) μ:=by
 simp only[yq,a8,bg,yw]
theorem Gy {b:Bool}:zy .bool (.bl b) μ=.ok (.bl true) μ:=rfl
end
end Lr
namespace Lr
open Lp
open PySem
theorem i4 (c k:Int):0≤bf c k:=by
 unfold bf
 exact Int.ediv_nonneg (CV _ (by decide)) (by decide)
section
variable {n : Nat} {μ ρ : Sto}
theorem fc (hr:mz μ) (c k:Int):rg (ax GL (n+1)) false av [.int c,.int k] μ=.ok (.int (bf c k)) μ:=dm (Dt c k) rfl rfl hr
theorem Dw (hr:mz μ) (ns:List Int) (k:Nat):rg (ax GL (n+1)) false d5 [.lst (ns.map D.int),.int k] μ=.ok (.int (ns.getD k 0)) μ:=dm (Ds ns k) rfl rfl hr
theorem u0 (hr:mz μ) (c:Int):∃b,ax GL (n+2) cq [.int c] μ=.ok (.int b) μ:=by
 rw[ar mi,run_eq rfl]
 have f8:∀x:Int,opI .Mod x 8 μ=.ok (.int (x % 8)) μ:=fun x=>op_mod (by decide)
 have f3:∀x:Int,opI .Mod x 3 μ=.ok (.int (x % 3)) μ:=fun x=>op_mod (by decide)
 have f13:∀x:Int,opI .Mod x 13 μ=.ok (.int (x % 13)) μ:=fun x=>op_mod (by decide)
 have d8:∀x:Int,opI .FloorDiv x 8 μ=.ok (.int (x / 8)) μ:=fun x=>kq (by decide) (by decide)
 have e1:opI .Pow 10 40 μ=.ok (.int (10 ^ 40)) μ:=op_pow (by decide)
 by_cases h0:bf c 3 % 8=0
 ·refine⟨10 ^ 40-bf c 3 / 8 % 3,?_⟩
  simp! only[D_law_bound_2,fc (n:=n) hr,f8,f3,f13,d8,h0,e1]
 ·by_cases h1:bf c 3 % 8=1
  ·refine⟨c % 10 ^ 40,?_⟩
   simp! only[D_law_bound_2,fc (n:=n) hr,f8,f3,f13,d8,h0,h1,e1,show ¬((1:Int)=0)by decide,op_mod (show(0:Int)<10 ^ 40 by decide)]
  ·refine⟨bf c 3 / 8 % 13,?_⟩
   simp! only[D_law_bound_2,fc (n:=n) hr,f8,f3,f13,d8,h0,h1]
theorem A2 (hr:mz μ) (cs:List Int) (m:Nat) (hm:2≤m) (hm2:m≤100) (hc:cs.length≤24):∃ts ρ,ts.length=cs.length∧(∀t∈ts,TieOk m t)∧ax GL (n+3) ez [.lst (cs.map D.int),.int m] μ=.ok (va m ts) (μ++ρ):=by
 rw[ar rf,run_eq rfl]
 obtain⟨σ',μ',e,ts,v3,v4,v5,v6,hl,hok,rfl,rfl⟩:=yu (φ:=ax GL (n+2)) (μ:=μ++[.l []]) (tg:=.one 3) (b:=dw) (xs:=cs) (en:=D.int)
  (σ:=[some (.lst (cs.map D.int)),some (.int m),some (.loc μ.length),none,none,none,none])
  (fun k σ μ'=>∃(ts:List Tie) (v3 v4 v5 v6:Option D),ts.length=k∧(∀t∈ts,TieOk m t)∧σ=[some (.lst (cs.map D.int)),some (.int m),some (.loc μ.length),v3,v4,v5,v6]∧μ'=μ++[.l (ts.map o6)])
  ⟨[],none,none,none,none,rfl,by simp,rfl,rfl⟩ (by
   rintro k c σ μ' ha ⟨ts,v3,v4,v5,v6,hl,hok,rfl,rfl⟩
   have hk:k<cs.length:=(AK.mp ha).1
   have H:mz (μ++[.l (ts.map o6)]):=sv hr _
   obtain⟨B,hB⟩:=u0 (n:=n) H c
   have s1:=i4 c 1
   have s2:=i4 c 2
   have x0:0≤bf c 1 % m:=CV _ (by omega)
   have x1:bf c 1 % m<m:=CU _ (by omega)
   have y0:0≤(bf c 1 % m+1+bf c 1 / m % (m-1)) % m:=CV _ (by omega)
   have y1:(bf c 1 % m+1+bf c 1 / m % (m-1)) % m<m:=CU _ (by omega)
   have et:(D.tup [.int (bf c 1 % m),.int ((bf c 1 % m+1+bf c 1 / m % (m-1)) % m),.int B,.int (bf c 2 % 13)])=o6 ⟨(bf c 1 % m).toNat,((bf c 1 % m+1+bf c 1 / m % (m-1)) % m).toNat,B,bf c 2 % 13⟩:=by
    simp only[o6,DW x0,DW y0]
   refine⟨[some (.lst (cs.map D.int)),some (.int m),some (.loc μ.length),some (.int c),some (.int (bf c 1)),some (.int (bf c 1 % m)),some (.int ((bf c 1 % m+1+bf c 1 / m % (m-1)) % m))],
    μ++[.l ((ts++[(⟨(bf c 1 % m).toNat,((bf c 1 % m+1+bf c 1 / m % (m-1)) % m).toNat,B,bf c 2 % 13⟩:Tie)]).map o6)],?_,_,_,_,_,_,by simp[hl],?_,rfl,rfl⟩
   ·simp! only[fLp,dw,fc (n:=n+1) H,op_mod (show(0:Int)<m by omega),op_mod (show(0:Int)<m-1 by omega),kq (show(0:Int)<m by omega) (show(m:Int)<1073741824 by omega),op_mod (show(0:Int)<13 by decide),dm hB rfl rfl H,
     Bo,et,Bp (yv _) (show(ts.map o6).length<1000000 by rw[AV];omega),ED]
   ·intro t ht
    rcases Ev.mp ht with h | h
    ·exact hok t h
    ·rw[FL.mp h]
     exact⟨by show Int.toNat _<m;omega,by show Int.toNat _<m;omega,by show(0:Int)≤_ % 13;omega,by show _ % (13:Int)<_;omega⟩)
 refine⟨ts,[.l (ts.map o6)],by simpa using hl,hok,?_⟩
 have e0:mkL .l [] μ=.ok (.loc μ.length) (μ++[.l []]):=Hj rfl
 simp! only[D_law_web_2,e0,e,bt_tuple mr,va]
theorem Dx (h:Int) (m:Nat) (hm:2≤m):∃a b:Nat,(a<m∧b<m)∧ax GL (n+1) gb [.int h,.int m] μ=.ok (.tup [.int a,.int b]) μ:=by
 rw[ar ux,run_eq rfl]
 have x0:0≤h / 7 % m:=CV _ (by omega)
 have x1:h / 7 % m<m:=CU _ (by omega)
 have y0:0≤(h / 7 % m+1+h / 77 % (m-1)) % m:=CV _ (by omega)
 have y1:(h / 7 % m+1+h / 77 % (m-1)) % m<m:=CU _ (by omega)
 refine⟨(h / 7 % m).toNat,((h / 7 % m+1+h / 77 % (m-1)) % m).toNat,by omega,?_⟩
 simp! only[D_law_ends,kq (show(0:Int)<7 by decide) (by decide),kq (show(0:Int)<77 by decide) (by decide),op_mod (show(0:Int)<m by omega),op_mod (show(0:Int)<m-1 by omega),DW x0,DW y0]
theorem Gz {m:Nat} {ts:List Tie}:ixD (va m ts) (.int 0) μ=.ok (.int m) μ:=rfl
theorem Dy {t:Tie}:ixD (o6 t) (.int 0) μ=.ok (.int t.one) μ:=rfl
theorem G0 {t:Tie}:ixD (o6 t) (.int 1) μ=.ok (.int t.other) μ:=rfl
theorem o7:∀xs ys:List Int,ro (xs.map D.int) (ys.map D.int)=decide (xs=ys)
 | [],[]=>by simp[ro]
 | [],_::_=>by simp[ro]
 | _::_,[]=>by simp[ro]
 | x::xs,y::ys=>by simp[ro,deq,o7 xs ys]
theorem jz (xs:List Int):(D.lst (xs.map D.int)).pure=true:=by
 rw[D.pure,Aw,AT];intro x hx;obtain⟨i,_,rfl⟩:=GI.mp hx;rfl
theorem o8 {kvs:List (D×D)} {a:Int}:dictAt (μ++[.d kvs]) (.loc μ.length) (.int a)=some kvs:=by
 simp only[dictAt,fb,zv,if_true]
theorem Dz {kvs:List (D×D)} {a:Int}:cpD .in_ (.int a) (.loc μ.length) (μ++[.d kvs])=.ok (.bl (qd (.int a) kvs).isSome) (μ++[.d kvs]):=by
 have e:bg (μ++[.d kvs]) (.loc μ.length)=none:=by simp only[bg,fb]
 simp only[cpD,e,o8]
theorem u3 {kvs:List (D×D)} {a:Int}:cpD .notin (.int a) (.loc μ.length) (μ++[.d kvs])=.ok (.bl (!(qd (.int a) kvs).isSome)) (μ++[.d kvs]):=by
 have e:bg (μ++[.d kvs]) (.loc μ.length)=none:=by simp only[bg,fb]
 simp only[cpD,e,o8]
theorem G1 (ns:List Int) {i j:Int} {w:Nat} (hi:0≤i) (hj:j=i+w):∃cs:List Int,cs.length≤w∧∀μ,slD .z (.lst (ns.map D.int)) (some i) (some j) μ=.ok (.lst (cs.map D.int)) μ:=by
 subst hj
 refine⟨(ns.drop (sIx ns.length 0 (some i))).take (sIx ns.length ns.length (some (i+w))-sIx ns.length 0 (some i)),?_,fun μ=>?_⟩
 ·rw[DT]
  unfold sIx
  simp only[show ¬i<0 by omega,show ¬i+(w:Int)<0 by omega,if_false]
  omega
 ·simp only[slD,Lp.listOf,g6,cut,AV,List.map_take,GX]
end
end Lr
namespace Lr
open Lp
open PySem
theorem ri (x y:Int):∀l:List Int,y∈insI x l↔y=x∨y∈l
 | []=>by simp[insI]
 | z::r=>by
  rw[insI]
  split
  ·simp
  ·simp only[AJ,ri x y r]
   exact or_left_comm
theorem sx (y:Int):∀l:List Int,y∈sortI l↔y∈l
 | []=>by simp[sortI]
 | x::r=>by rw[sortI,ri,sx y r,AJ]
theorem yx (y:Int) (l:List Int):y∈fg l↔y∈l:=by
 have gen:∀(l σ:List Int),y∈l.foldl (fun σ k=>if σ.any (·==k)then σ else σ++[k]) σ↔y∈σ∨y∈l:=by
  intro l
  induction l with
  | nil=>intro σ;simp
  | cons x r ih =>
   intro σ
   rw[BR,ih]
   by_cases h:(σ.any (·==x))=true
   ·rw[if_pos h]
    have hx:x∈σ:=by simpa using h
    simp only[AJ]
    constructor
    ·rintro(q | q)
     ·exact .inl q
     ·exact .inr (.inr q)
    ·rintro(q | rfl | q)
     ·exact .inl q
     ·exact .inl hx
     ·exact .inr q
   ·rw[if_neg h]
    simp only[Ev,AJ,BD,or_false,or_assoc]
 rw[fg,gen];simp
end Lr
namespace Lr
open Lp
open PySem
theorem ins_up (x:Int):∀l:List Int,(∀y∈l,x<y)→insI x l=x::l
 | [],_=>rfl
 | y::r,h=>by rw[insI,if_pos (Int.le_of_lt (h y AM))]
theorem j0:∀l:List Int,l.Pairwise (· < ·)→sortI l=l
 | [],_=>rfl
 | x::r,h=>by
  obtain⟨h1,h2⟩:=AS.mp h
  rw[sortI,j0 r h2,ins_up x r h1]
theorem yy:∀(l σ:List Int),(σ++l).Nodup→l.foldl (fun σ k=>if σ.any (·==k)then σ else σ++[k]) σ=σ++l
 | [],σ,_=>by simp
 | x::r,σ,h=>by
  rw[BR]
  have hx:¬(σ.any (·==x))=true:=by
   intro z
   have:x∈σ:=by simpa using z
   rw[FR]at h
   exact h.2.2 x this x AM rfl
  rw[if_neg hx,yy r (σ++[x]) (by simpa using h)]
  simp
theorem o9 {l:List Int} (h:l.Pairwise (· < ·)):l.Nodup:=h.imp fun h=>Int.ne_of_lt h
theorem u4 {l:List Int} (h:l.Pairwise (· < ·)):sortI (fg l)=l:=by
 rw[fg,yy l [] (by simpa using o9 h),List.nil_append,j0 l h]
theorem pd:∀(l σ:List Int),σ.Nodup→(l.foldl (fun σ k=>if σ.any (·==k)then σ else σ++[k]) σ).Nodup
 | [],σ,h=>h
 | x::r,σ,h=>by
  rw[BR]
  refine pd r _ ?_
  split
  ·exact h
  ·rename_i z
   rw[FR]
   refine⟨h,by simp,fun a ha b hb e=>z ?_⟩
   simp only[FL]at hb
   subst hb e
   simpa using ha
theorem Bq (x:Int):∀l:List Int,l.Pairwise (· < ·)→x∉l→(insI x l).Pairwise (· < ·)
 | [],_,_=>by simp[insI]
 | y::r,h,hx=>by
  obtain⟨h1,h2⟩:=AS.mp h
  have ne:x≠y:=fun e=>hx (e ▸ AM)
  rw[insI]
  split
  ·rename_i hc
   refine AS.mpr ⟨fun z hz=>?_,h⟩
   rcases AJ.mp hz with rfl | hz
   ·omega
   ·have:=h1 z hz;omega
  ·rename_i hc
   refine AS.mpr ⟨fun z hz=>?_,Bq x r h2 fun z=>hx (AN _ z)⟩
   rcases(ri x z r).mp hz with rfl | hz
   ·omega
   ·exact h1 z hz
theorem yz:∀l:List Int,l.Nodup→(sortI l).Pairwise (· < ·)
 | [],_=>.nil
 | x::r,h=>by
  obtain⟨h1,h2⟩:=EB.mp h
  exact Bq x _ (yz r h2) fun z=>h1 ((sx x r).mp z)
theorem kx (l:List Int):l=sortI (fg l)↔l.Pairwise (· < ·):=by
 refine⟨fun e=>?_,fun h=>(u4 h).symm⟩
 rw[e]
 exact yz _ (pd l [] .nil)
theorem y6 (x:Int):∀l:List Int,(insI x l).length=l.length+1
 | []=>rfl
 | y::r=>by
  rw[insI]
  split
  ·rfl
  ·rw[BJ,y6 x r];rfl
theorem mx:∀l:List Int,(sortI l).length=l.length
 | []=>rfl
 | x::r=>by rw[sortI,y6,mx r];rfl
theorem Br (l:List Int):(fg l).length≤l.length:=by
 have gen:∀(l σ:List Int),(l.foldl (fun σ k=>if σ.any (·==k)then σ else σ++[k]) σ).length≤σ.length+l.length:=by
  intro l
  induction l with
  | nil=>intro σ;exact AL _
  | cons x r ih =>
   intro σ
   rw[BR]
   refine BV (ih _) ?_
   split
   ·simp<;>omega
   ·simp<;>omega
 have:=gen l []
 simpa[fg]using this
theorem Bs:∀{xs:List Int},((xs.zip (xs.drop 1)).map fun p=>decide (p.1<p.2)).all id=true↔xs.Pairwise (· < ·)
 | []=>by simp
 | [a]=>by simp
 | a::b::r=>by
  have ih:=Bs (xs:=b::r)
  simp only[List.drop_succ_cons,List.drop_zero,CI,AZ,BO,id,AX,decide_eq_true_eq]at ih ⊢
  rw[ih]
  constructor
  ·rintro⟨h1,h2⟩
   refine AS.mpr ⟨fun x hx=>?_,h2⟩
   rcases AJ.mp hx with rfl | hx
   ·exact h1
   ·have:=(AS.mp h2).1 x hx;omega
  ·intro h
   obtain⟨h1,h2⟩:=AS.mp h
   exact⟨h1 b AM,h2⟩
noncomputable def j4 (ts:List Tie) (xs:List Int):Int:=((ts.filter fun t=>decide ((t.one:Int)∈xs∧¬(t.other:Int)∈xs)).map (·.bound)).sum
open Classical in
noncomputable def y8 (m:Nat) (a b:Int) (xs:List Int):Bool:=decide ((∀x∈xs,0≤x∧x<(m:Int))∧xs.Pairwise (· < ·)∧a∈xs∧¬b∈xs)
theorem rj (a:Int) (xs:List Int):decide (a∈fg xs)=decide (a∈xs):=by
 by_cases h:a∈xs
 ·rw[decide_eq_true h,decide_eq_true ((yx a xs).mpr h)]
 ·rw[decide_eq_false h,decide_eq_false fun z=>h ((yx a xs).mp z)]
section
variable {n : Nat} {μ ρ : Sto} {φ : Phi} {σ : Sl}
theorem y9 {ns:List Int} {k:Int}:cpD .in_ (.int k) (.tup (ns.map D.int)) μ=.ok (.bl (decide (k∈ns))) μ:=by
 simp only[cpD,o5,flat,g7,and_self,if_true,any_ints]
theorem za {ns:List Int} {k:Int}:cpD .notin (.int k) (.tup (ns.map D.int)) μ=.ok (.bl (!decide (k∈ns))) μ:=by
 simp only[cpD,o5,flat,g7,and_self,if_true,any_ints]
theorem j5 {ns:List Int} {k:Int}:cpD .in_ (.int k) (.lst (ns.map D.int)) μ=.ok (.bl (decide (k∈ns))) μ:=by
 simp only[cpD,ay,flat,g7,and_self,if_true,any_ints]
theorem gs {ns:List Int} {k:Int}:cpD .notin (.int k) (.lst (ns.map D.int)) μ=.ok (.bl (!decide (k∈ns))) μ:=by
 simp only[cpD,ay,flat,g7,and_self,if_true,any_ints]
theorem ky:∀xs:List Int,ja (xs.map fun x=>D.tup [.int x,.bl true])=some (xs.map fun x=>(D.int x,D.bl true))
 | []=>rfl
 | x::r=>by
  rw[AZ,ja,if_pos ⟨rfl,rfl⟩,ky r];rfl
noncomputable def my (ks:List Int):List (D×D):=ks.map fun k=>(D.int k,D.bl true)
theorem zc (ks:List Int) (x:Int):dput (.int x) (.bl true) (my ks)=my (if ks.any (·==x)then ks else ks++[x]):=by
 have ea:((my ks).any fun p=>deq p.1 (.int x))=ks.any (·==x):=by
  unfold my
  rw[List.any_map]
  congr 1
 unfold dput
 rw[ea]
 split
 ·rename_i h
  unfold my
  rw[FE]
  refine List.map_congr_left fun k _=>?_
  show(if deq (.int k) (.int x)=true then _ else _)=_
  split<;>rfl
 ·rw[my,my,ED];rfl
theorem pe:∀(xs ks:List Int),(xs.map fun x=>(D.int x,D.bl true)).foldl (fun m p=>dput p.1 p.2 m) (my ks)=my (xs.foldl (fun σ k=>if σ.any (·==k)then σ else σ++[k]) ks)
 | [],_=>rfl
 | x::r,ks=>by rw[AZ,BR,BR,zc,pe r]
theorem pf (a:Int):∀ks:List Int,(qd (.int a) (my ks)).isSome=decide (a∈ks)
 | []=>by simp[my,qd]
 | k::r=>by
  show(qd (.int a) ((D.int k,D.bl true)::my r)).isSome=_
  rw[qd]
  have e:deq (.int k) (.int a)=decide (k=a):=rfl
  by_cases h:k=a
  ·rw[if_pos (by rw[e];exact decide_eq_true h)];simp[h]
  ·rw[if_neg (by rw[e];simpa using h),pf a r]
   have h':¬a=k:=fun z=>h z.symm
   simp[h']
theorem pg {m:Nat} {ts:List Tie} {xs:List Int} (hx:xs.length<1000):∃ρ:Sto,ax GL (n+1) dh [va m ts,.tup (xs.map D.int)] μ=.ok (.int (j4 ts xs)) (μ++ρ):=by
 rw[ar o3,run_eq rfl]
 have c0:jy (ax GL n) .z (.one 0) .nil c9 [none] (xs.map D.int,none) μ=.ok (.lst (xs.map fun x=>D.tup [.int x,.bl true])) μ:=by
  rw[comp_map (en:=D.int) (g:=fun x=>D.tup [.int x,.bl true]) fun x _=>by simp! only[o4,c9]]
  rw[g6]
 have bd:btD .dictP .z [.lst (xs.map fun x=>D.tup [.int x,.bl true])] μ=.ok (.loc μ.length) (μ++[.d (my (fg xs))]):=by
  simp only[btD,fw,v7,Lp.listOf,CS,ky,AV]
  rw[if_pos hx]
  have:=pe xs []
  rw[show my []=[]from rfl]at this
  rw[this];rfl
 have hc:jy (ax GL n) .z (.many [1,2,3,4]) bj bo [some (.loc μ.length),none,none,none,none] (ts.map o6,none) (μ++[.d (my (fg xs))])=.ok (.lst (((ts.filter fun t=>decide ((t.one:Int)∈xs∧¬(t.other:Int)∈xs)).map (·.bound)).map D.int)) (μ++[.d (my (fg xs))]):=by
  rw[gr (g:=fun t:Tie=>D.int t.bound) (p:=fun t:Tie=>decide ((t.one:Int)∈xs∧¬(t.other:Int)∈xs)) fun t _=>by
   have i1:=Dz (μ:=μ) (kvs:=my (fg xs)) (a:=(t.one:Int))
   have i2:=u3 (μ:=μ) (kvs:=my (fg xs)) (a:=(t.other:Int))
   rw[pf,rj]at i1 i2
   by_cases h1:(t.one:Int)∈xs
   ·by_cases h2:(t.other:Int)∈xs
    ·simp! only[o4,rh,bj,bo,i1,i2,h1,h2,not_true_eq_false,and_false,if_false,AQ]
    ·simp! only[o4,rh,bj,bo,i1,i2,h1,h2,not_false_eq_true,and_self,if_true]
   ·simp! only[o4,rh,bj,bo,i1,h1,false_and,if_false,AQ]]
  rw[g6,FE];rfl
 have ks0:kSeq (.tup (xs.map D.int)) μ=.ok (xs.map D.int,none) μ:=rfl
 refine⟨[.d (my (fg xs))],?_⟩
 simp! only[D_side_worth,ks0,c0,bd,Gx,hc,bt_sum ay (fu _),j4]
theorem zd (xs:List Int):ax GL (n+1) mf [.tup (xs.map D.int)] μ=.ok (.bl (((xs.zip (xs.drop 1)).map fun p=>decide (p.1<p.2)).all id)) μ:=by
 rw[ar Dk,run_eq rfl]
 have hz:yq (.tup (xs.map D.int)) (.tup ((xs.map D.int).drop 1)) μ=.ok ((xs.zip (xs.drop 1)).map fun p=>D.tup [.int p.1,.int p.2],none) μ:=by
  rw[←GX]
  exact A1 (f:=D.int) (g:=D.int)
 have hc:jy (ax GL n) .z (.many [0,1]) .nil ig [none,none] ((xs.zip (xs.drop 1)).map (fun p=>D.tup [.int p.1,.int p.2]),none) μ=.ok (.lst (((xs.zip (xs.drop 1)).map fun p=>decide (p.1<p.2)).map D.bl)) μ:=by
  rw[comp_map (g:=fun p:Int×Int=>D.bl (decide (p.1<p.2))) fun p hp=>by
   simp! only[o4,ig]]
  rw[g6,FE];rfl
 simp! only[D_rises,Ku,hz,hc,bt_all ay (ku _)]
theorem ze (hr:mz μ) {m:Nat} {ts:List Tie} (a b:Nat) (xs:List Int):ax GL (n+2) g0 [va m ts,.int a,.int b,.tup (xs.map D.int)] μ=.ok (.bl (y8 m a b xs)) μ:=by
 rw[ar yo,run_eq rfl]
 have ks0:kSeq (.tup (xs.map D.int)) μ=.ok (xs.map D.int,none) μ:=rfl
 have c0:jy (ax GL (n+1)) .z (.one 1) .nil di [some (va m ts),none] (xs.map D.int,none) μ=.ok (.lst ((xs.map fun x=>decide (0≤x∧x<(m:Int))).map D.bl)) μ:=by
  rw[comp_map (en:=D.int) (g:=fun x=>D.bl (decide (0≤x∧x<(m:Int)))) fun x _=>by
   by_cases h:0≤x
   ·simp! only[o4,di,Gz,h,true_and]
   ·simp! only[o4,di,Gz,h,false_and]]
  rw[g6,FE];rfl
 have ba:=bt_all (μ:=μ) (m:=.z) (ay (μ:=μ)) (ku (xs.map fun x=>decide (0≤x∧x<(m:Int))))
 have e1:(xs.map fun x=>decide (0≤x∧x<(m:Int))).all id=true↔∀x∈xs,0≤x∧x<(m:Int):=by simp
 have kr:=dm (zd (n:=n) (μ:=μ) xs) rfl rfl hr
 have e2:=Bs (xs:=xs)
 generalize (xs.map fun x=>decide (0≤x∧x<(m:Int))).all id=B1 at *
 generalize ((xs.zip (xs.drop 1)).map fun p=>decide (p.1<p.2)).all id=B2 at *
 unfold y8
 cases B1 with
 | false =>
  have:¬∀x∈xs,0≤x∧x<(m:Int):=fun z=>by have:=e1.mpr z;cases this
  rw[decide_eq_false fun z=>this z.1]
  simp! only[D_is_side,ks0,c0,ba]
 | true =>
  cases B2 with
  | false =>
   have:¬xs.Pairwise (· < ·):=fun z=>by have:=e2.mpr z;cases this
   rw[decide_eq_false fun z=>this z.2.1]
   simp! only[D_is_side,ks0,c0,ba,kr]
  | true =>
   have h1:=e1.mp rfl
   have h2:=e2.mp rfl
   by_cases q1:(a:Int)∈xs
   ·by_cases q2:(b:Int)∈xs
    ·rw[decide_eq_false fun z=>z.2.2.2 q2]
     simp! only[D_is_side,ks0,c0,ba,kr,y9,za,q1,q2]
    ·rw[decide_eq_true ⟨h1,h2,q1,q2⟩]
     simp! only[D_is_side,ks0,c0,ba,kr,y9,za,q1,q2]
   ·rw[decide_eq_false fun z=>q1 z.2.2.1]
    simp! only[D_is_side,ks0,c0,ba,kr,y9,q1]
theorem zf:∀{xs:List Int},xs.Pairwise (· < ·)→∀x∈xs,xs.headD 0≤x∧x≤xs.getLastD 0
 | [],_,x,h=>by simp at h
 | [a],_,x,h=>by simp at h;subst h;simp
 | a::b::r,h,x,hx=>by
  obtain⟨h1,h2⟩:=AS.mp h
  have ih:=zf h2
  have hb:=ih b AM
  have e:(a::b::r).getLastD 0=(b::r).getLastD 0:=by simp[List.getLastD]
  have e2:(b::r).headD 0=b:=rfl
  rw[e]
  show a≤x∧_
  rcases AJ.mp hx with rfl | hx
  ·have:=h1 b AM;omega
  ·have:=ih x hx;have:=h1 b AM;omega
theorem A3 (x0:Int) (r:List Int):(x0::r).getLastD 0∈x0::r:=by
 rw[FN,List.getLast?_eq_some_getLast (by simp)]
 exact List.getLast_mem _
theorem Kw (x0:Int) (r:List Int):ixD (.lst ((x0::r).map D.int)) (.int (-1)) μ=.ok (.int ((x0::r).getLastD 0)) μ:=by
 have hn:ixN ((x0::r).map D.int).length (-1)=some r.length:=by
  simp only[ixN,AV,BJ]
  rw[if_neg (by decide),if_pos (by omega)]
  congr 1
  omega
 have hg:((x0::r).map D.int)[r.length]? = some (.int ((x0::r).getLastD 0)):=by
  rw[FN,List.getLast?_eq_getElem?,BN]
  simp
 simp only[ixD,bg,hn,hg]
theorem ph {m:Nat} (a b:Nat) {xs:List Int} (hl:xs.length<64):ax GL (n+1) cv [.lst (xs.map D.int),.int m,.int a,.int b] μ=.ok (.bl (y8 m a b xs)) μ:=by
 rw[ar mn,run_eq rfl]
 have bs:btD .sortedSet .z [.lst (xs.map D.int)] μ=.ok (.lst ((sortI (fg xs)).map D.int)) μ:=by
  simp only[btD,fw,rp,zw,bg,CS,fu]
  rw[if_pos hl,g6]
 have ne:cpD .ne (.lst (xs.map D.int)) (.lst ((sortI (fg xs)).map D.int)) μ=.ok (.bl (!decide (xs=sortI (fg xs)))) μ:=by
  rw[Dp (jz _) (jz _),deq,o7]
 unfold y8
 by_cases h:xs=sortI (fg xs)
 ·have hp:=(kx xs).mp h
  have ne':cpD .ne (.lst (xs.map D.int)) (.lst ((sortI (fg xs)).map D.int)) μ=.ok (.bl false) μ:=by rw[ne,decide_eq_true h];rfl
  by_cases q1:(a:Int)∈xs
  ·by_cases q2:(b:Int)∈xs
   ·rw[decide_eq_false fun z=>z.2.2.2 q2]
    simp! only[D_law_is_side,bs,ne',gs,j5,q1,q2]
   ·obtain⟨x0,r,rfl⟩:∃x0 r,xs=x0::r:=by
     cases xs with
     | nil=>simp at q1
     | cons x r=>exact⟨x,r,rfl⟩
    have i0:ixD (.lst ((x0::r).map D.int)) (.int 0) μ=.ok (.int x0) μ:=Bn (k:=0) ay rfl
    have i1:ixD (.lst ((x0::r).map D.int)) (.int (-1)) μ=.ok (.int ((x0::r).getLastD 0)) μ:=Kw x0 r
    have pl:=zf hp
    generalize hL:(x0::r).getLastD 0=la at *
    have hla:la∈x0::r:=by rw[←hL];exact A3 x0 r
    generalize hX:x0::r=xs at *
    by_cases z1:0≤x0
    ·by_cases z2:la<(m:Int)
     ·have hall:∀x∈xs,0≤x∧x<(m:Int):=fun x hx=>by
       have:=pl x hx
       rw[←hX]at this
       have e:(x0::r).headD 0=x0:=rfl
       omega
      rw[decide_eq_true ⟨hall,hp,q1,q2⟩]
      simp! only[D_law_is_side,bs,ne',gs,j5,q1,q2,i0,i1,z1,z2]
     ·rw[decide_eq_false fun z=>z2 (z.1 la hla).2]
      simp! only[D_law_is_side,bs,ne',gs,j5,q1,q2,i0,i1,z1,z2]
    ·rw[decide_eq_false fun z=>z1 (z.1 x0 (by rw[←hX];exact AM)).1]
     simp! only[D_law_is_side,bs,ne',gs,j5,q1,q2,i0,z1]
  ·rw[decide_eq_false fun z=>q1 z.2.2.1]
   simp! only[D_law_is_side,bs,ne',gs,q1]
 ·have ne':cpD .ne (.lst (xs.map D.int)) (.lst ((sortI (fg xs)).map D.int)) μ=.ok (.bl true) μ:=by rw[ne,decide_eq_false h];rfl
  rw[decide_eq_false fun z=>h ((kx xs).mpr z.2.1)]
  simp! only[D_law_is_side,bs,ne']
theorem u5 (hr:mz μ) (c:Int) (m:Nat) (hm:1≤m):∃(xs:List Int) (ρ:Sto),xs.length≤8∧ax GL (n+2) cu [.int c,.int m] μ=.ok (.lst (xs.map D.int)) (μ++ρ):=by
 rw[ar mj,run_eq rfl]
 have m0:mkL .l [] μ=.ok (.loc μ.length) (μ++[.l []]):=Hj rfl
 have H0:mz (μ++[.l []]):=sv hr _
 have k4:=fc (n:=n) H0 c 4
 have t0:=i4 c 4
 generalize bf c 4=t at *
 have m9:∀M:Sto,opI .Mod t 9 M=.ok (.int (t % 9)) M:=fun M=>op_mod (by decide)
 have d9:∀M:Sto,opI .FloorDiv t 9 M=.ok (.int (t / 9)) M:=fun M=>kq (by decide) (by decide)
 have m2:∀M:Sto,opI .Mod (t / 9) 2 M=.ok (.int (t / 9 % 2)) M:=fun M=>op_mod (by decide)
 have kr:∀M:Sto,kRng (.int (t % 9)) M=.ok ((List.range (t % 9).toNat).map fun(i:Nat)=>D.int i,none) M:=fun M=>Dn (by omega)
 obtain⟨σ',μ',e,xs,v4,hxl,rfl,rfl⟩:=yu (φ:=ax GL (n+1)) (μ:=μ++[.l []]) (tg:=.one 4) (b:=ck) (xs:=List.range (t % 9).toNat) (en:=fun(k:Nat)=>D.int k)
  (σ:=[some (.int c),some (.int m),some (.loc μ.length),some (.int t),none])
  (fun j σ μ'=>∃(xs:List Int) (v4:Option D),xs.length=j∧σ=[some (.int c),some (.int m),some (.loc μ.length),some (.int t),v4]∧μ'=μ++[.l (xs.map D.int)]) ⟨[],none,rfl,rfl,rfl⟩ (by
   rintro j k σ μ' hj ⟨xs,v4,hxl,rfl,rfl⟩
   have hj2:=(Gw hj).2
   have H:mz (μ++[.l (xs.map D.int)]):=sv hr _
   have ks:=fc (n:=n) H c (10+k)
   generalize bf c (10+k)=s at *
   have mm:∀M:Sto,opI .Mod s (m:Int) M=.ok (.int (s % m)) M:=fun M=>op_mod (by omega)
   have ap:mtD .append (.loc μ.length) [.int (s % m)] (μ++[.l (xs.map D.int)])=.ok .non (μ++[.l ((xs++[s % m]).map D.int)]):=by
    rw[Bp rfl (by rw[AV];omega),ED];rfl
   refine⟨_,_,?_,xs++[s % m],some (.int k),by simp[hxl],rfl,rfl⟩
   simp! only[fLp,ck,Bo,ks,mm,ap])
 rw[List.length_range]at hxl
 have h8:xs.length≤8:=by omega
 by_cases q:t / 9 % 2=0
 ·have bs:btD .sortedSet .l [.loc μ.length] (μ++[.l (xs.map D.int)])=.ok (.loc (μ.length+1)) (μ++[.l (xs.map D.int)]++[.l ((sortI (fg xs)).map D.int)]):=by
   simp only[btD,fw,rp,zw,mr,CS,fu]
   rw[if_pos (by omega),Hj (by simp only[FC,AT];exact fun _ _=>jx)]
   simp
  have ha:(μ++[.l (xs.map D.int)]++[.l ((sortI (fg xs)).map D.int)])[μ.length+1]? = some (O.l ((sortI (fg xs)).map D.int)):=by simp
  have fz:evE (ax GL (n+1)) (.frz 2) [some (.int c),some (.int m),some (.loc (μ.length+1)),some (.int t),v4] (μ++[.l (xs.map D.int)]++[.l ((sortI (fg xs)).map D.int)])=.ok (.lst ((sortI (fg xs)).map D.int)) (μ++[.l (xs.map D.int),.dead]):=by
   simp only[evE,Kt,Ks,ha]
   simp
  have:=Br xs
  refine⟨sortI (fg xs),[.l (xs.map D.int),.dead],by rw[mx];omega,?_⟩
  simp! only[D_law_numbers,m0,k4,m9,kr,e,d9,m2,q,bs,fz]
 ·have fz:evE (ax GL (n+1)) (.frz 2) [some (.int c),some (.int m),some (.loc μ.length),some (.int t),v4] (μ++[.l (xs.map D.int)])=.ok (.lst (xs.map D.int)) (μ++[.dead]):=by
   simp only[evE,Kt,Ks,fb,iz]
  refine⟨xs,[.dead],h8,?_⟩
  simp! only[D_law_numbers,m0,k4,m9,kr,e,d9,m2,q,fz]
theorem A4 {xs:List Int} {i v:Int} (h0:0≤i) (h1:i≤(xs.length:Int)) (hl:xs.length<1000):mtD .insert (.loc μ.length) [.int i,.int v] (μ++[.l (xs.map D.int)])=.ok .non (μ++[.l ((xs.take i.toNat++v::xs.drop i.toNat).map D.int)]):=by
 have h2:xs.length<lim:=by unfold lim;omega
 simp only[mtD,v8,fb,kf,mtL,AV,h0,h1,h2,fits,Ax,and_self,if_true,putL,iz,ED,AZ,List.map_take,GX]
theorem G2 {es:Exs} {ds:List D}:kM φ .insert es σ (.loc μ.length) (μ++[.l ds])=(fi φ es σ (μ++[.l ds])).bind (mtD .insert (.loc μ.length)):=yt fun _ _=>rfl
theorem j6 (hr:mz μ) {xs:List Int} (hx:xs.length≤20) (c:Int) (m:Nat):∃(ys:List Int) (ρ:Sto),ys.length=xs.length+1∧ax GL (n+2) bu [.lst (xs.map D.int),.int c,.int m] μ=.ok (.lst (ys.map D.int)) (μ++ρ):=by
 rw[ar kb,run_eq rfl]
 have bl:btD .list .l [.lst (xs.map D.int)] μ=.ok (.loc μ.length) (μ++[.l (xs.map D.int)]):=by
  rw[bt_list ay,Hj (by simp only[FC,AT];exact fun _ _=>jx)]
 have H:mz (μ++[.l (xs.map D.int)]):=sv hr _
 have k7:=fc (n:=n) H c 7
 have k8:=fc (n:=n) H c 8
 generalize bf c 7=s7 at *
 generalize bf c 8=s8 at *
 have p20:∀M:Sto,opI .Pow 10 20 M=.ok (.int (10 ^ 20)) M:=fun M=>op_pow (by decide)
 have m7:∀M:Sto,opI .Mod s7 7 M=.ok (.int (s7 % 7)) M:=fun M=>op_mod (by decide)
 obtain⟨bad,hbad⟩:∃v:Int,∀M:Sto,ixD (.lst [.int (-1),.int m,.int ((m:Int)+1),.int (10 ^ 20),.int (-(m:Int)),.int 0,.int ((m:Int)-1)]) (.int (s7 % 7)) M=.ok (.int v) M:=by
  obtain⟨v,_,hv⟩:=Du (ns:=[-1,(m:Int),(m:Int)+1,10 ^ 20,-(m:Int),0,(m:Int)-1]) (i:=s7 % 7) (by omega) (by show s7 % 7<7;omega)
  exact⟨v,hv⟩
 have ln:btD .len .z [.loc μ.length] (μ++[.l (xs.map D.int)])=.ok (.int xs.length) (μ++[.l (xs.map D.int)]):=by rw[bt_len mr,AV]
 have ml:∀M:Sto,opI .Mod s8 ((xs.length:Int)+1) M=.ok (.int (s8 % ((xs.length:Int)+1))) M:=fun M=>op_mod (by omega)
 have q0:=CV s8 (show((xs.length:Int)+1)≠0 by omega)
 have q1:=CU s8 (show(0:Int)<(xs.length:Int)+1 by omega)
 generalize s8 % ((xs.length:Int)+1)=i at *
 have ins:=A4 (μ:=μ) (xs:=xs) (v:=bad) q0 (by omega) (by omega)
 have fz:evE (ax GL (n+1)) (.frz 3) [some (.lst (xs.map D.int)),some (.int c),some (.int m),some (.loc μ.length),some (.int bad)] (μ++[.l ((xs.take i.toNat++bad::xs.drop i.toNat).map D.int)])=.ok (.lst ((xs.take i.toNat++bad::xs.drop i.toNat).map D.int)) (μ++[.dead]):=by
  simp only[evE,Kt,Ks,fb,iz]
 refine⟨xs.take i.toNat++bad::xs.drop i.toNat,[.dead],?_,?_⟩
 ·simp;omega
 ·simp! only[D_law_spoilt_4,bl,p20,g6,k7,m7,hbad,G2,k8,ln,ml,ins,fz]
theorem Mv {xs ys:List D} (h:xs.length+ys.length≤1000000):opD .Add .z (.lst xs) (.lst ys) μ=.ok (.lst (xs++ys)) μ:=by
 simp only[opD,Lp.listOf,lim,g6]
 rw[if_pos (by omega)]
theorem A5 (i:Int):ax GL (n+1) d6 [.int i,.int i] μ=.ok (.bl true) μ:=by
 rw[ar uw,run_eq rfl]
 have t1:zy .tuple (.int i) μ=.ok (.bl false) μ:=rfl
 have t2:cpD .is (.int i) .non μ=.ok (.bl false) μ:=rfl
 have t3:zy .str (.int i) μ=.ok (.bl false) μ:=rfl
 have t4:zy .int (.int i) μ=.ok (.bl true) μ:=rfl
 have t5:zy .bool (.int i) μ=.ok (.bl false) μ:=rfl
 simp! only[D_law_same,t1,t2,t3,t4,t5]
end
theorem Kx (ns:List Int) (hn:ns.length≤63):∃μ',ax GL 6 jw [.lst (ns.map D.int)] []=.ok (.bl true) μ':=by
 rw[ar yp,run_eq rfl]
 have hr:mz []:=rfl
 obtain⟨hd,ehd⟩:∃hd:Int,hd=bf (ns.getD 0 0) 0:=⟨_,rfl⟩
 have hd0:0≤hd:=by rw[ehd];exact i4 _ _
 obtain⟨m,hm⟩:∃m:Nat,(m:Int)=2+hd % 6:=⟨(2+hd % 6).toNat,by omega⟩
 have hm1:2≤m∧m≤7:=by omega
 obtain⟨cs,hc,esl⟩:=G1 ns (i:=2) (j:=26) (w:=24) (by omega) (by omega)
 obtain⟨ts,ρ,htl,hok,ew⟩:=A2 (n:=2) hr cs m hm1.1 (by omega) hc
 have kw:=d7 ew (A0 m ts) hr
 obtain⟨a,b,⟨ha,hb⟩,ee⟩:=Dx (n:=4) (μ:=[]) hd m hm1.1
 have ke:=dm ee rfl rfl hr
 have c0:=Dw (n:=4) hr ns 0
 have cs0:=fc (n:=4) hr (ns.getD 0 0) 0
 rw[←ehd]at cs0
 have m6:opI .Mod hd 6 []=.ok (.int (hd % 6)) []:=op_mod (by decide)
 have li:btD .list .z [.lst (ns.map D.int)] []=.ok (.lst (ns.map D.int)) []:=by rw[bt_list ay,g6]
 have ct:opD .Add .z (.lst [.int 0]) (.lst (ns.map D.int)) []=.ok (.lst ((0::ns).map D.int)) []:=Mv (by simp;omega)
 have nb:∀x:Bool,cpD .ne (.bl x) (.bl x) []=.ok (.bl false) []:=fun x=>by cases x<;>rfl
 obtain⟨σ',e,v,rfl⟩:=yr (φ:=ax GL 5) (μ:=[]) (tg:=.one 6) (b:=ft) (xs:=0::ns) (en:=D.int)
  (σ:=[some (.lst (ns.map D.int)),some (.int hd),some (.int m),some (va m ts),some (.int a),some (.int b),none,none,none,none,none,none])
  (fun _ σ=>∃v:Nat→Option D,σ=[some (.lst (ns.map D.int)),some (.int hd),some (.int m),some (va m ts),some (.int a),some (.int b),v 6,v 7,v 8,v 9,v 10,v 11]) ⟨fun _=>none,rfl⟩ (by
   rintro k c σ hk ⟨v,rfl⟩
   obtain⟨xs,ρ1,hx8,en⟩:=u5 (n:=3) hr c m (by omega)
   have kn:=d7 en (jz xs) hr
   have c1:jy (ax GL 5) .z (.one 1) cc cf [some (.lst (xs.map D.int)),none] (ts.map o6,none) []=.ok (.lst (((ts.filter fun t=>decide ((t.one:Int)∈xs∧¬(t.other:Int)∈xs)).map (·.bound)).map D.int)) []:=by
    rw[gr (g:=fun t:Tie=>D.int t.bound) (p:=fun t:Tie=>decide ((t.one:Int)∈xs∧¬(t.other:Int)∈xs)) fun t _=>by
     by_cases h1:(t.one:Int)∈xs
     ·by_cases h2:(t.other:Int)∈xs
      ·simp! only[o4,cc,cf,Dy,G0,j5,gs,h1,h2,not_true_eq_false,and_false,if_false,AQ]
      ·simp! only[o4,cc,cf,Dy,G0,Kv,j5,gs,h1,h2,not_false_eq_true,and_self,if_true]
     ·simp! only[o4,cc,cf,Dy,j5,h1,false_and,if_false,AQ]]
    rw[g6,FE];rfl
   have sm:=bt_sum (μ:=[]) (m:=.z) (ay (μ:=[])) (fu ((ts.filter fun t=>decide ((t.one:Int)∈xs∧¬(t.other:Int)∈xs)).map (·.bound)))
   rw[show((ts.filter fun t=>decide ((t.one:Int)∈xs∧¬(t.other:Int)∈xs)).map (·.bound)).sum=j4 ts xs from rfl]at sm
   have bt:∀ys:List Int,btD .tuple .z [.lst (ys.map D.int)] []=.ok (.tup (ys.map D.int)) []:=fun ys=>bt_tuple ay
   obtain⟨ρ2,es⟩:=pg (n:=4) (μ:=[]) (m:=m) (ts:=ts) (xs:=xs) (by omega)
   have ksw:=d7 es rfl hr
   have ksm:=dm (A5 (n:=4) (μ:=[]) (j4 ts xs)) rfl rfl hr
   have ksx:kSeq (.lst (xs.map D.int)) []=.ok (xs.map D.int,none) []:=rfl
   have c2:jy (ax GL 5) .z (.one 1) dj dk [some (.int b),none] (xs.map D.int,none) []=.ok (.lst ((xs.filter fun x=>decide (¬x=(b:Int))).map D.int)) []:=by
    rw[gr (g:=D.int) (p:=fun x:Int=>decide (¬x=(b:Int))) fun x _=>by
     by_cases h:x=(b:Int)
     ·simp! only[o4,dj,dk,h,not_true_eq_false,if_false,AQ]
     ·simp! only[o4,dj,dk,h,not_false_eq_true,if_true]]
    rw[g6]
   have hf:(xs.filter fun x=>decide (¬x=(b:Int))).length≤xs.length:=List.length_filter_le _ _
   generalize xs.filter (fun x=>decide (¬x=(b:Int)))=fs at *
   have c3:opD .Add .z (.lst [.int a]) (.lst (fs.map D.int)) []=.ok (.lst (((a:Int)::fs).map D.int)) []:=Mv (by simp;omega)
   have bs:btD .sortedSet .z [.lst (((a:Int)::fs).map D.int)] []=.ok (.lst ((sortI (fg ((a:Int)::fs))).map D.int)) []:=by
    simp only[btD,fw,rp,zw,bg,CS,fu]
    rw[if_pos (by simp;omega),g6]
   have hw:(sortI (fg ((a:Int)::fs))).length≤9:=by
    rw[mx]
    have:=Br ((a:Int)::fs)
    simp at this
    omega
   generalize (a:Int)::fs=as at *
   generalize sortI (fg as)=ws at *
   obtain⟨y1,ρ3,hy1,e1⟩:=j6 (n:=3) hr (xs:=xs) (by omega) c m
   have k1:=d7 e1 (jz y1) hr
   obtain⟨y2,ρ4,hy2,e2⟩:=j6 (n:=3) hr (xs:=ws) (by omega) c m
   have k2:=d7 e2 (jz y2) hr
   obtain⟨σ',el,v10,v11,rfl⟩:=yr (φ:=ax GL 5) (μ:=[]) (tg:=.one 10) (b:=fo) (xs:=[xs,ws,y1,y2]) (en:=fun l:List Int=>D.lst (l.map D.int))
    (σ:=[some (.lst (ns.map D.int)),some (.int hd),some (.int m),some (va m ts),some (.int a),some (.int b),some (.int c),some (.lst (xs.map D.int)),some (.int (j4 ts xs)),some (.lst (ws.map D.int)),v 10,v 11])
    (fun _ σ=>∃v10 v11,σ=[some (.lst (ns.map D.int)),some (.int hd),some (.int m),some (va m ts),some (.int a),some (.int b),some (.int c),some (.lst (xs.map D.int)),some (.int (j4 ts xs)),some (.lst (ws.map D.int)),v10,v11]) ⟨_,_,rfl⟩ (by
     rintro j l σ hl ⟨v10,v11,rfl⟩
     have hl':l.length<64:=by
      have:=DS hl
      simp at this
      rcases this with rfl | rfl | rfl | rfl<;>omega
     have q1:=dm (ze (n:=3) (m:=m) (ts:=ts) hr a b l) rfl rfl hr
     have q2:=dm (ph (n:=4) (μ:=[]) (m:=m) a b hl') rfl rfl hr
     refine⟨_,?_,some (.lst (l.map D.int)),some (.bl (y8 m a b l)),rfl⟩
     simp! only[fLp,fo,bt,q1,Gy,q2,nb])
   simp only[AZ,EL]at el
   refine⟨_,?_,fun i=>[none,none,none,none,none,none,some (.int c),some (.lst (xs.map D.int)),some (.int (j4 ts xs)),some (.lst (ws.map D.int)),v10,v11].getD i none,rfl⟩
   simp! only[fLp,ft,kn,Gx,c1,sm,bt,ksw,ksm,ksx,c2,g6,c3,bs,k1,k2,el]
   rfl)
 have un:∀σ:Sl,cz (.many [4,5]) (.tup [.int a,.int b]) σ=some ((σ.set 4 (some (.int a))).set 5 (some (.int b))):=fun _=>rfl
 refine⟨[],?_⟩
 rw[show((0:Nat):Int)=0 from rfl]at c0
 rw[AZ]at e
 simp! only[D_law_k19,c0,cs0,m6,←hm,esl,kw,ke,un,g6,li,ct,e]
end Lr
namespace Lp.Law
open PySem PySem.Spec PyProof.Rows L2 Lp
noncomputable def top (i:Nat):Stmt:=PySem.Challenge.pw_lamprota_k19_sides.main.body.getD i (.Pass ⟨0,0,0,0⟩)
noncomputable def e0:Ent:=⟨mf,"rises",top 1,["things"],["things"],D_rises⟩
noncomputable def e1:Ent:=⟨dh,"side_worth",top 3,["web","side","within"],["web","side"],D_side_worth⟩
noncomputable def e2:Ent:=⟨g0,"is_side",top 4,["web","first","last","side","inside"],["web","first","last","side"],D_is_side⟩
noncomputable def e3:Ent:=⟨d5,"_law_cell",top 6,["script","k"],["script","k"],D_law_cell⟩
noncomputable def e4:Ent:=⟨av,"_law_stir",top 7,["cell","k","near"],["cell","k"],D_law_stir⟩
noncomputable def e5:Ent:=⟨d6,"_law_same",top 8,["found","due","k"],["found","due"],D_law_same⟩
noncomputable def e6:Ent:=⟨cq,"_law_bound",top 9,["cell","size"],["cell"],D_law_bound_2⟩
noncomputable def e7:Ent:=⟨ez,"_law_web",top 10,["cells","many","ties","cell","turn","start","end"],["cells","many"],D_law_web_2⟩
noncomputable def e8:Ent:=⟨gb,"_law_ends",top 11,["head","many","first"],["head","many"],D_law_ends⟩
noncomputable def e9:Ent:=⟨cu,"_law_numbers",top 12,["cell","many","numbers","turn","k"],["cell","many"],D_law_numbers⟩
noncomputable def e10:Ent:=⟨bu,"_law_spoilt",top 13,["numbers","cell","many","stated","bad"],["numbers","cell","many"],D_law_spoilt_4⟩
noncomputable def e11:Ent:=⟨cv,"_law_is_side",top 14,["numbers","many","first","last"],["numbers","many","first","last"],D_law_is_side⟩
noncomputable def e12:Ent:=⟨jw,"law",top 15,["script","head","many","web","first","last","cell","numbers","worth","whole","stated","found"],["script"],D_law_k19⟩
noncomputable def ents:List Ent:=[e0,e1,e2,e3,e4,e5,e6,e7,e8,e9,e10,e11,e12]
noncomputable def rk:List Str:=["zip","all","dict","sum","len","isinstance","tuple","range","str","int","bool","sorted","set","list"]
theorem arS {k:Nat} {Q:List Value→Prop} (h:∀a us,us.length=k→Q (a::us)):∀us:List Value,us.length=k+1→Q us
 | [],e=>nomatch e
 | a::us,e=>h a us (Nat.succ.inj e)
theorem ar0 {Q:List Value→Prop} (h:∀(_:Unit),Q []):∀us:List Value,us.length=0→Q us
 | [],_=>h ()
theorem ar1 {Q:List Value→Prop} (h:∀(a0:Value),Q [a0]):∀us:List Value,us.length=1→Q us:=arS fun a0=>ar0 (Q:=fun us=>Q (a0::us)) (fun _=>h a0)
theorem ar2 {Q:List Value→Prop} (h:∀(a0 a1:Value),Q [a0,a1]):∀us:List Value,us.length=2→Q us:=arS fun a0=>ar1 (Q:=fun us=>Q (a0::us)) (h a0)
theorem ar3 {Q:List Value→Prop} (h:∀(a0 a1 a2:Value),Q [a0,a1,a2]):∀us:List Value,us.length=3→Q us:=arS fun a0=>ar2 (Q:=fun us=>Q (a0::us)) (h a0)
theorem ar4 {Q:List Value→Prop} (h:∀(a0 a1 a2 a3:Value),Q [a0,a1,a2,a3]):∀us:List Value,us.length=4→Q us:=arS fun a0=>ar3 (Q:=fun us=>Q (a0::us)) (h a0)
section
variable {P : Program} {w : World} {K : PySem.W.Frag} {mg : Str → Option Value} {base : Heap}
theorem dv0 (B:∀(j:Nat) x,rk[j]? = some x→mg x=none):Derived GL P w K mg base ents e0:=⟨⟨rfl,rfl,rfl,by decide +kernel,rfl,by decide +kernel,by decide +kernel⟩,rfl,rfl,rfl,fun n fa cdv A outer s H E hu C =>
 (br (c8 (xm (B 1 _ rfl) (ab (kh ["one","other"] (Gh (B 0 _ rfl) (aa 0) (La (aa 0) (Jm ah) Nw)) (fun _ _ _ _=>⟨(xp (fk 0 (fk 1 xn))),ib,(oo (aa 0) (om hu .lt (aa 1)))⟩)) ao))) ef)⟩
theorem dv1 (B:∀(j:Nat) x,rk[j]? = some x→mg x=none):Derived GL P w K mg base ents e1:=⟨⟨rfl,rfl,rfl,by decide +kernel,rfl,by decide +kernel,by decide +kernel⟩,rfl,rfl,rfl,fun n fa cdv A outer s H E hu C =>
 (br (da 2 (Au (B 2 _ rfl) (ab (kh ["node"] (iq (aa 1)) (fun _ _ _ _=>⟨(eu 0),ib,(Ai (ab (aa 0) (ab Bh ao)))⟩)) ao))) (br (c8 (xk (B 3 _ rfl) (ab (kh ["within","tail","head","bound","price"] (iq (u9 (aa 0) ah)) (fun _ _ _ _=>⟨(xp (fk 1 (fk 2 (fk 3 (fk 4 xn))))),(l0 (D5 (Bi (c7 (aa 1) (gn hu .in_ (aa 0))) (xg (c7 (aa 2) (gn hu .notin (aa 0)))))) ib),(aa 3)⟩)) ao))) ef))⟩
theorem dv2 (B:∀(j:Nat) x,rk[j]? = some x→mg x=none):Derived GL P w K mg base ents e2:=⟨⟨rfl,rfl,rfl,by decide +kernel,rfl,by decide +kernel,by decide +kernel⟩,rfl,rfl,rfl,fun n fa cdv A outer s H E hu C =>
 (br (da 4 (xm (B 1 _ rfl) (ab (kh ["web","node"] (iq (aa 3)) (fun _ _ _ _=>⟨(eu 1),ib,(oo ah (Nx hu .le (aa 1) (om hu .lt (u9 (aa 0) ah))))⟩)) ao))) (br (c8 (uc (aa 4) (uc (bq (C 0 _ rfl) (ab (aa 3) ao)) (uc (oo (aa 1) (om hu .in_ (aa 3))) (xf (oo (aa 2) (om hu .notin (aa 3)))))))) ef))⟩
theorem dv3 (B:∀(j:Nat) x,rk[j]? = some x→mg x=none):Derived GL P w K mg base ents e3:=⟨⟨rfl,rfl,rfl,by decide +kernel,rfl,by decide +kernel,by decide +kernel⟩,rfl,rfl,rfl,fun n fa cdv A outer s H E hu C =>
 (br (xq (c7 (aa 1) (gn hu .lt (jm (B 4 _ rfl) (ab (aa 0) ao)))) (br (c8 (u9 (aa 0) (aa 1))) ef) ef) (br (c8 ah) ef))⟩
theorem dv4 (B:∀(j:Nat) x,rk[j]? = some x→mg x=none):Derived GL P w K mg base ents e4:=⟨⟨rfl,rfl,rfl,by decide +kernel,rfl,by decide +kernel,by decide +kernel⟩,rfl,rfl,rfl,fun n fa cdv A outer s H E hu C =>
 (br (da 2 (ak (ak (ak (aa 0) (ak ah (aa 1))) ah) ah)) (br (da 2 (ak (ak (aa 2) (aa 2)) ah)) (br (c8 (ak (ak (ak (aa 2) ah) ah) ah)) ef)))⟩
theorem dv5 (B:∀(j:Nat) x,rk[j]? = some x→mg x=none):Derived GL P w K mg base ents e5:=⟨⟨rfl,rfl,rfl,by decide +kernel,rfl,by decide +kernel,by decide +kernel⟩,rfl,rfl,rfl,fun n fa cdv A outer s H E hu C =>
 (br (xq (h9 (ue (aa 1) (B 5 _ rfl) (B 6 _ rfl))) (br (xq (D5 (xj (sa (h9 (ue (aa 0) (B 5 _ rfl) (B 6 _ rfl)))) (sd (c7 (jm (B 4 _ rfl) (ab (aa 0) ao)) (gn hu .ne (jm (B 4 _ rfl) (ab (aa 1) ao))))))) (br (c8 Bh) ef) ef) (br (xu (Bj (B 7 _ rfl) (jm (B 4 _ rfl) (ab (aa 1) ao))) (eu 2) (br (xq (sa (h9 (bq (C 5 _ rfl) (ab (u9 (aa 0) (aa 2)) (ab (u9 (aa 1) (aa 2)) ao))))) (br (c8 Bh) ef) ef) ef)) (br (c8 Bh) ef))) ef) (br (xq (D5 (xj (c7 (aa 1) (gn hu .is Jk)) (sd (h9 (ue (aa 1) (B 5 _ rfl) (B 8 _ rfl)))))) (br (c8 (oo (aa 0) (om hu .eq (aa 1)))) ef) ef) (br (c8 (uc (ue (aa 0) (B 5 _ rfl) (B 9 _ rfl)) (uc (Jl (ue (aa 0) (B 5 _ rfl) (B 10 _ rfl))) (xf (oo (aa 0) (om hu .eq (aa 1))))))) ef)))⟩
theorem dv6 (B:∀(j:Nat) x,rk[j]? = some x→mg x=none):Derived GL P w K mg base ents e6:=⟨⟨rfl,rfl,rfl,by decide +kernel,rfl,by decide +kernel,by decide +kernel⟩,rfl,rfl,rfl,fun n fa cdv A outer s H E hu C =>
 (br (da 1 (bq (C 4 _ rfl) (ab (aa 0) (ab ah ao)))) (br (xq (c7 (ak (aa 1) ah) (gn hu .eq ah)) (br (c8 (ak (ak ah ah) (ak (ak (aa 1) ah) ah))) ef) ef) (br (xq (c7 (ak (aa 1) ah) (gn hu .eq ah)) (br (c8 (ak (aa 0) (ak ah ah))) ef) ef) (br (c8 (ak (ak (aa 1) ah) ah)) ef))))⟩
theorem dv7 (B:∀(j:Nat) x,rk[j]? = some x→mg x=none):Derived GL P w K mg base ents e7:=⟨⟨rfl,rfl,rfl,by decide +kernel,rfl,by decide +kernel,by decide +kernel⟩,rfl,rfl,rfl,fun n fa cdv A outer s H E hu C =>
 (br (da 2 (ud ao)) (br (xu (iq (aa 0)) (eu 3) (br (da 4 (bq (C 4 _ rfl) (ab (aa 3) (ab ah ao)))) (br (da 5 (ak (aa 4) (aa 1))) (br (da 6 (ak (ak (ak (aa 5) ah) (ak (ak (aa 4) (aa 1)) (ak (aa 1) ah))) (aa 1))) (br (Jn (jo (aa 2) (ab (Ai (ab (aa 5) (ab (aa 6) (ab (bq (C 6 _ rfl) (ab (aa 3) ao)) (ab (ak (bq (C 4 _ rfl) (ab (aa 3) (ab ah ao))) ah) ao))))) ao))) ef))))) (br (c8 (Ai (ab (aa 1) (ab (jn (B 6 _ rfl) (ab (aa 2) ao)) ao)))) ef)))⟩
theorem dv8 (B:∀(j:Nat) x,rk[j]? = some x→mg x=none):Derived GL P w K mg base ents e8:=⟨⟨rfl,rfl,rfl,by decide +kernel,rfl,by decide +kernel,by decide +kernel⟩,rfl,rfl,rfl,fun n fa cdv A outer s H E hu C =>
 (br (da 2 (ak (ak (aa 0) ah) (aa 1))) (br (c8 (Ai (ab (aa 2) (ab (ak (ak (ak (aa 2) ah) (ak (ak (aa 0) ah) (ak (aa 1) ah))) (aa 1)) ao)))) ef))⟩
theorem dv9 (B:∀(j:Nat) x,rk[j]? = some x→mg x=none):Derived GL P w K mg base ents e9:=⟨⟨rfl,rfl,rfl,by decide +kernel,rfl,by decide +kernel,by decide +kernel⟩,rfl,rfl,rfl,fun n fa cdv A outer s H E hu C =>
 (br (da 2 (ud ao)) (br (da 3 (bq (C 4 _ rfl) (ab (aa 0) (ab ah ao)))) (br (xu (Bj (B 7 _ rfl) (ak (aa 3) ah)) (eu 4) (br (Jn (jo (aa 2) (ab (ak (bq (C 4 _ rfl) (ab (aa 0) (ab (ak ah (aa 4)) ao))) (aa 1)) ao))) ef)) (br (xq (c7 (ak (ak (aa 3) ah) ah) (gn hu .eq ah)) (br (da 2 (gp (B 11 _ rfl) (B 12 _ rfl) (aa 2))) ef) ef) (br (c8 (Gb 2)) ef)))))⟩
theorem O1 (B:∀(j:Nat) x,rk[j]? = some x→mg x=none):Derived GL P w K mg base ents e10:=⟨⟨rfl,rfl,rfl,by decide +kernel,rfl,by decide +kernel,by decide +kernel⟩,rfl,rfl,rfl,fun n fa cdv A outer s H E hu C =>
 (br (da 3 (se (B 13 _ rfl) (ab (aa 0) ao))) (br (da 4 (u9 (ud (ab (C6 ah) (ab (aa 2) (ab (ak (aa 2) ah) (ab (ak ah ah) (ab (C6 (aa 2)) (ab ah (ab (ak (aa 2) ah) ao)))))))) (ak (bq (C 4 _ rfl) (ab (aa 1) (ab ah ao))) ah))) (br (Jn (rd (aa 3) (ab (ak (bq (C 4 _ rfl) (ab (aa 1) (ab ah ao))) (ak (jm (B 4 _ rfl) (ab (aa 3) ao)) ah)) (ab (aa 4) ao)))) (br (c8 (Gb 3)) ef))))⟩
theorem O2 (B:∀(j:Nat) x,rk[j]? = some x→mg x=none):Derived GL P w K mg base ents e11:=⟨⟨rfl,rfl,rfl,by decide +kernel,rfl,by decide +kernel,by decide +kernel⟩,rfl,rfl,rfl,fun n fa cdv A outer s H E hu C =>
 (br (xq (D5 (xj (c7 (aa 0) (gn hu .ne (gp (B 11 _ rfl) (B 12 _ rfl) (aa 0)))) (xj (c7 (aa 2) (gn hu .notin (aa 0))) (sd (c7 (aa 3) (gn hu .in_ (aa 0))))))) (br (c8 Bh) ef) ef) (br (c8 (uc (oo (u9 (aa 0) ah) (om hu .ge ah)) (xf (oo (u9 (aa 0) (C6 ah)) (om hu .lt (aa 1)))))) ef))⟩
theorem O3 (B:∀(j:Nat) x,rk[j]? = some x→mg x=none):Derived GL P w K mg base ents e12:=⟨⟨rfl,rfl,rfl,by decide +kernel,rfl,by decide +kernel,by decide +kernel⟩,rfl,rfl,rfl,fun n fa cdv A outer s H E hu C =>
 (br (da 1 (bq (C 4 _ rfl) (ab (bq (C 3 _ rfl) (ab (aa 0) (ab ah ao))) (ab ah ao)))) (br (da 2 (ak ah (ak (aa 1) ah))) (br (da 3 (bq (C 7 _ rfl) (ab (La (aa 0) (Jm ah) (Jm ah)) (ab (aa 2) ao)))) (br (Jo (xp (fk 4 (fk 5 xn))) (bq (C 8 _ rfl) (ab (aa 1) (ab (aa 2) ao)))) (br (xu (iq (ak (ud (ab ah ao)) (se (B 13 _ rfl) (ab (aa 0) ao)))) (eu 6) (br (da 7 (bq (C 9 _ rfl) (ab (aa 6) (ab (aa 2) ao)))) (br (da 8 (xk (B 3 _ rfl) (ab (kh ["numbers","tie"] (iq (u9 (aa 3) ah)) (fun _ _ _ _=>⟨(eu 1),(l0 (D5 (Bi (c7 (u9 (aa 1) ah) (gn hu .in_ (aa 0))) (xg (c7 (u9 (aa 1) ah) (gn hu .notin (aa 0)))))) ib),(u9 (aa 1) ah)⟩)) ao))) (br (xq (sa (h9 (bq (C 5 _ rfl) (ab (bq (C 1 _ rfl) (ab (aa 3) (ab (jn (B 6 _ rfl) (ab (aa 7) ao)) ao))) (ab (aa 8) ao))))) (br (c8 Bh) ef) ef) (br (da 9 (gp (B 11 _ rfl) (B 12 _ rfl) (ak (ud (ab (aa 4) ao)) (kh ["last","node"] (iq (aa 7)) (fun _ _ _ _=>⟨(eu 1),(l0 (c7 (aa 1) (gn hu .ne (aa 0))) ib),(aa 1)⟩))))) (br (xu (iq (ud (ab (aa 7) (ab (aa 9) (ab (bq (C 10 _ rfl) (ab (aa 7) (ab (aa 6) (ab (aa 2) ao)))) (ab (bq (C 10 _ rfl) (ab (aa 9) (ab (aa 6) (ab (aa 2) ao)))) ao)))))) (eu 10) (br (da 11 (bq (C 2 _ rfl) (ab (aa 3) (ab (aa 4) (ab (aa 5) (ab (jn (B 6 _ rfl) (ab (aa 10) ao)) ao)))))) (br (xq (D5 (xj (sa (h9 (ue (aa 11) (B 5 _ rfl) (B 10 _ rfl)))) (sd (c7 (aa 11) (gn hu .ne (bq (C 11 _ rfl) (ab (aa 10) (ab (aa 2) (ab (aa 4) (ab (aa 5) ao)))))))))) (br (c8 Bh) ef) ef) ef))) ef)))))) (br (c8 Bh) ef))))))⟩
theorem dvs (B:∀(j:Nat) x,rk[j]? = some x→mg x=none):∀(j:Nat) e,ents[j]? = some e→Derived GL P w K mg base ents e
 | 0,_,h=>by
  have h':some e0=some _:=h
  cases h'
  exact dv0 B
 | 1,_,h=>by
  have h':some e1=some _:=h
  cases h'
  exact dv1 B
 | 2,_,h=>by
  have h':some e2=some _:=h
  cases h'
  exact dv2 B
 | 3,_,h=>by
  have h':some e3=some _:=h
  cases h'
  exact dv3 B
 | 4,_,h=>by
  have h':some e4=some _:=h
  cases h'
  exact dv4 B
 | 5,_,h=>by
  have h':some e5=some _:=h
  cases h'
  exact dv5 B
 | 6,_,h=>by
  have h':some e6=some _:=h
  cases h'
  exact dv6 B
 | 7,_,h=>by
  have h':some e7=some _:=h
  cases h'
  exact dv7 B
 | 8,_,h=>by
  have h':some e8=some _:=h
  cases h'
  exact dv8 B
 | 9,_,h=>by
  have h':some e9=some _:=h
  cases h'
  exact dv9 B
 | 10,_,h=>by
  have h':some e10=some _:=h
  cases h'
  exact O1 B
 | 11,_,h=>by
  have h':some e11=some _:=h
  cases h'
  exact O2 B
 | 12,_,h=>by
  have h':some e12=some _:=h
  cases h'
  exact O3 B
 | n+13,_,h=>by
  have h':(none:Option Ent)=some _:=h
  cases h'
theorem mk0 {h:Heap} {f:Addr} {oc:Value} {od an:Option Addr} {sl:Array (Option Value)} {kV dc pm cd ct:Value} (X:K.In h) (G:h.Ns mainGlobals mg) (a:PySem.W.nsIn K mainGlobals "rises"=some (some (.ref f))) (l:K.lookup f=some ⟨oc,od,.func (PySem.W.fnOf "rises" "rises" (bc (top 1)) (az (top 1)) (ag (top 1)) .none kV dc pm an cd ct),sl⟩) (c:PySem.W.codeIn K cd "rises"=true) (k:PySem.W.keepIn K (.ref f)=true):ModOf K mg e0 :=
 d0 (e:=e0) X G a l c k fun _ _ _ _ _ _=>ar1 fun _=>rfl
theorem mk1 {h:Heap} {f:Addr} {oc:Value} {od an:Option Addr} {sl:Array (Option Value)} {kV dc pm cd ct:Value} (X:K.In h) (G:h.Ns mainGlobals mg) (a:PySem.W.nsIn K mainGlobals "side_worth"=some (some (.ref f))) (l:K.lookup f=some ⟨oc,od,.func (PySem.W.fnOf "side_worth" "side_worth" (bc (top 3)) (az (top 3)) (ag (top 3)) .none kV dc pm an cd ct),sl⟩) (c:PySem.W.codeIn K cd "side_worth"=true) (k:PySem.W.keepIn K (.ref f)=true):ModOf K mg e1 :=
 d0 (e:=e1) X G a l c k fun _ _ _ _ _ _=>ar2 fun _ _=>rfl
theorem mk2 {h:Heap} {f:Addr} {oc:Value} {od an:Option Addr} {sl:Array (Option Value)} {kV dc pm cd ct:Value} (X:K.In h) (G:h.Ns mainGlobals mg) (a:PySem.W.nsIn K mainGlobals "is_side"=some (some (.ref f))) (l:K.lookup f=some ⟨oc,od,.func (PySem.W.fnOf "is_side" "is_side" (bc (top 4)) (az (top 4)) (ag (top 4)) .none kV dc pm an cd ct),sl⟩) (c:PySem.W.codeIn K cd "is_side"=true) (k:PySem.W.keepIn K (.ref f)=true):ModOf K mg e2 :=
 d0 (e:=e2) X G a l c k fun _ _ _ _ _ _=>ar4 fun _ _ _ _=>rfl
theorem mk3 {h:Heap} {f:Addr} {oc:Value} {od an:Option Addr} {sl:Array (Option Value)} {kV dc pm cd ct:Value} (X:K.In h) (G:h.Ns mainGlobals mg) (a:PySem.W.nsIn K mainGlobals "_law_cell"=some (some (.ref f))) (l:K.lookup f=some ⟨oc,od,.func (PySem.W.fnOf "_law_cell" "_law_cell" (bc (top 6)) (az (top 6)) (ag (top 6)) .none kV dc pm an cd ct),sl⟩) (c:PySem.W.codeIn K cd "_law_cell"=true) (k:PySem.W.keepIn K (.ref f)=true):ModOf K mg e3 :=
 d0 (e:=e3) X G a l c k fun _ _ _ _ _ _=>ar2 fun _ _=>rfl
theorem mk4 {h:Heap} {f:Addr} {oc:Value} {od an:Option Addr} {sl:Array (Option Value)} {kV dc pm cd ct:Value} (X:K.In h) (G:h.Ns mainGlobals mg) (a:PySem.W.nsIn K mainGlobals "_law_stir"=some (some (.ref f))) (l:K.lookup f=some ⟨oc,od,.func (PySem.W.fnOf "_law_stir" "_law_stir" (bc (top 7)) (az (top 7)) (ag (top 7)) .none kV dc pm an cd ct),sl⟩) (c:PySem.W.codeIn K cd "_law_stir"=true) (k:PySem.W.keepIn K (.ref f)=true):ModOf K mg e4 :=
 d0 (e:=e4) X G a l c k fun _ _ _ _ _ _=>ar2 fun _ _=>rfl
theorem mk5 {h:Heap} {f:Addr} {oc:Value} {od an:Option Addr} {sl:Array (Option Value)} {kV dc pm cd ct:Value} (X:K.In h) (G:h.Ns mainGlobals mg) (a:PySem.W.nsIn K mainGlobals "_law_same"=some (some (.ref f))) (l:K.lookup f=some ⟨oc,od,.func (PySem.W.fnOf "_law_same" "_law_same" (bc (top 8)) (az (top 8)) (ag (top 8)) .none kV dc pm an cd ct),sl⟩) (c:PySem.W.codeIn K cd "_law_same"=true) (k:PySem.W.keepIn K (.ref f)=true):ModOf K mg e5 :=
 d0 (e:=e5) X G a l c k fun _ _ _ _ _ _=>ar2 fun _ _=>rfl
theorem mk6 {h:Heap} {f:Addr} {oc:Value} {od an:Option Addr} {sl:Array (Option Value)} {kV dc pm cd ct:Value} (X:K.In h) (G:h.Ns mainGlobals mg) (a:PySem.W.nsIn K mainGlobals "_law_bound"=some (some (.ref f))) (l:K.lookup f=some ⟨oc,od,.func (PySem.W.fnOf "_law_bound" "_law_bound" (bc (top 9)) (az (top 9)) (ag (top 9)) .none kV dc pm an cd ct),sl⟩) (c:PySem.W.codeIn K cd "_law_bound"=true) (k:PySem.W.keepIn K (.ref f)=true):ModOf K mg e6 :=
 d0 (e:=e6) X G a l c k fun _ _ _ _ _ _=>ar1 fun _=>rfl
theorem mk7 {h:Heap} {f:Addr} {oc:Value} {od an:Option Addr} {sl:Array (Option Value)} {kV dc pm cd ct:Value} (X:K.In h) (G:h.Ns mainGlobals mg) (a:PySem.W.nsIn K mainGlobals "_law_web"=some (some (.ref f))) (l:K.lookup f=some ⟨oc,od,.func (PySem.W.fnOf "_law_web" "_law_web" (bc (top 10)) (az (top 10)) (ag (top 10)) .none kV dc pm an cd ct),sl⟩) (c:PySem.W.codeIn K cd "_law_web"=true) (k:PySem.W.keepIn K (.ref f)=true):ModOf K mg e7 :=
 d0 (e:=e7) X G a l c k fun _ _ _ _ _ _=>ar2 fun _ _=>rfl
theorem mk8 {h:Heap} {f:Addr} {oc:Value} {od an:Option Addr} {sl:Array (Option Value)} {kV dc pm cd ct:Value} (X:K.In h) (G:h.Ns mainGlobals mg) (a:PySem.W.nsIn K mainGlobals "_law_ends"=some (some (.ref f))) (l:K.lookup f=some ⟨oc,od,.func (PySem.W.fnOf "_law_ends" "_law_ends" (bc (top 11)) (az (top 11)) (ag (top 11)) .none kV dc pm an cd ct),sl⟩) (c:PySem.W.codeIn K cd "_law_ends"=true) (k:PySem.W.keepIn K (.ref f)=true):ModOf K mg e8 :=
 d0 (e:=e8) X G a l c k fun _ _ _ _ _ _=>ar2 fun _ _=>rfl
theorem mk9 {h:Heap} {f:Addr} {oc:Value} {od an:Option Addr} {sl:Array (Option Value)} {kV dc pm cd ct:Value} (X:K.In h) (G:h.Ns mainGlobals mg) (a:PySem.W.nsIn K mainGlobals "_law_numbers"=some (some (.ref f))) (l:K.lookup f=some ⟨oc,od,.func (PySem.W.fnOf "_law_numbers" "_law_numbers" (bc (top 12)) (az (top 12)) (ag (top 12)) .none kV dc pm an cd ct),sl⟩) (c:PySem.W.codeIn K cd "_law_numbers"=true) (k:PySem.W.keepIn K (.ref f)=true):ModOf K mg e9 :=
 d0 (e:=e9) X G a l c k fun _ _ _ _ _ _=>ar2 fun _ _=>rfl
theorem O4 {h:Heap} {f:Addr} {oc:Value} {od an:Option Addr} {sl:Array (Option Value)} {kV dc pm cd ct:Value} (X:K.In h) (G:h.Ns mainGlobals mg) (a:PySem.W.nsIn K mainGlobals "_law_spoilt"=some (some (.ref f))) (l:K.lookup f=some ⟨oc,od,.func (PySem.W.fnOf "_law_spoilt" "_law_spoilt" (bc (top 13)) (az (top 13)) (ag (top 13)) .none kV dc pm an cd ct),sl⟩) (c:PySem.W.codeIn K cd "_law_spoilt"=true) (k:PySem.W.keepIn K (.ref f)=true):ModOf K mg e10 :=
 d0 (e:=e10) X G a l c k fun _ _ _ _ _ _=>ar3 fun _ _ _=>rfl
theorem O5 {h:Heap} {f:Addr} {oc:Value} {od an:Option Addr} {sl:Array (Option Value)} {kV dc pm cd ct:Value} (X:K.In h) (G:h.Ns mainGlobals mg) (a:PySem.W.nsIn K mainGlobals "_law_is_side"=some (some (.ref f))) (l:K.lookup f=some ⟨oc,od,.func (PySem.W.fnOf "_law_is_side" "_law_is_side" (bc (top 14)) (az (top 14)) (ag (top 14)) .none kV dc pm an cd ct),sl⟩) (c:PySem.W.codeIn K cd "_law_is_side"=true) (k:PySem.W.keepIn K (.ref f)=true):ModOf K mg e11 :=
 d0 (e:=e11) X G a l c k fun _ _ _ _ _ _=>ar4 fun _ _ _ _=>rfl
theorem O6 {h:Heap} {f:Addr} {oc:Value} {od an:Option Addr} {sl:Array (Option Value)} {kV dc pm cd ct:Value} (X:K.In h) (G:h.Ns mainGlobals mg) (a:PySem.W.nsIn K mainGlobals "law"=some (some (.ref f))) (l:K.lookup f=some ⟨oc,od,.func (PySem.W.fnOf "law" "law" (bc (top 15)) (az (top 15)) (ag (top 15)) .none kV dc pm an cd ct),sl⟩) (c:PySem.W.codeIn K cd "law"=true) (k:PySem.W.keepIn K (.ref f)=true):ModOf K mg e12 :=
 d0 (e:=e12) X G a l c k fun _ _ _ _ _ _=>ar1 fun _=>rfl
end
theorem mods {K:PySem.W.Frag} {mg:Str→Option Value} (m0:ModOf K mg e0) (m1:ModOf K mg e1) (m2:ModOf K mg e2) (m3:ModOf K mg e3) (m4:ModOf K mg e4) (m5:ModOf K mg e5) (m6:ModOf K mg e6) (m7:ModOf K mg e7) (m8:ModOf K mg e8) (m9:ModOf K mg e9) (m10:ModOf K mg e10) (m11:ModOf K mg e11) (m12:ModOf K mg e12):∀(j:Nat) e,ents[j]? = some e→ModOf K mg e
 | 0,_,h=>by
  have h':some e0=some _:=h
  cases h'
  exact m0
 | 1,_,h=>by
  have h':some e1=some _:=h
  cases h'
  exact m1
 | 2,_,h=>by
  have h':some e2=some _:=h
  cases h'
  exact m2
 | 3,_,h=>by
  have h':some e3=some _:=h
  cases h'
  exact m3
 | 4,_,h=>by
  have h':some e4=some _:=h
  cases h'
  exact m4
 | 5,_,h=>by
  have h':some e5=some _:=h
  cases h'
  exact m5
 | 6,_,h=>by
  have h':some e6=some _:=h
  cases h'
  exact m6
 | 7,_,h=>by
  have h':some e7=some _:=h
  cases h'
  exact m7
 | 8,_,h=>by
  have h':some e8=some _:=h
  cases h'
  exact m8
 | 9,_,h=>by
  have h':some e9=some _:=h
  cases h'
  exact m9
 | 10,_,h=>by
  have h':some e10=some _:=h
  cases h'
  exact m10
 | 11,_,h=>by
  have h':some e11=some _:=h
  cases h'
  exact m11
 | 12,_,h=>by
  have h':some e12=some _:=h
  cases h'
  exact m12
 | n+13,_,h=>by
  have h':(none:Option Ent)=some _:=h
  cases h'
theorem nob {mg:Str→Option Value} (b0:mg "zip"=none) (b1:mg "all"=none) (b2:mg "dict"=none) (b3:mg "sum"=none) (b4:mg "len"=none) (b5:mg "isinstance"=none) (b6:mg "tuple"=none) (b7:mg "range"=none) (b8:mg "str"=none) (b9:mg "int"=none) (b10:mg "bool"=none) (b11:mg "sorted"=none) (b12:mg "set"=none) (b13:mg "list"=none):∀(j:Nat) x,rk[j]? = some x→mg x=none
 | 0,_,h=>by
  have h':some ("zip":Str)=some _:=h
  cases h'
  exact b0
 | 1,_,h=>by
  have h':some ("all":Str)=some _:=h
  cases h'
  exact b1
 | 2,_,h=>by
  have h':some ("dict":Str)=some _:=h
  cases h'
  exact b2
 | 3,_,h=>by
  have h':some ("sum":Str)=some _:=h
  cases h'
  exact b3
 | 4,_,h=>by
  have h':some ("len":Str)=some _:=h
  cases h'
  exact b4
 | 5,_,h=>by
  have h':some ("isinstance":Str)=some _:=h
  cases h'
  exact b5
 | 6,_,h=>by
  have h':some ("tuple":Str)=some _:=h
  cases h'
  exact b6
 | 7,_,h=>by
  have h':some ("range":Str)=some _:=h
  cases h'
  exact b7
 | 8,_,h=>by
  have h':some ("str":Str)=some _:=h
  cases h'
  exact b8
 | 9,_,h=>by
  have h':some ("int":Str)=some _:=h
  cases h'
  exact b9
 | 10,_,h=>by
  have h':some ("bool":Str)=some _:=h
  cases h'
  exact b10
 | 11,_,h=>by
  have h':some ("sorted":Str)=some _:=h
  cases h'
  exact b11
 | 12,_,h=>by
  have h':some ("set":Str)=some _:=h
  cases h'
  exact b12
 | 13,_,h=>by
  have h':some ("list":Str)=some _:=h
  cases h'
  exact b13
 | n+14,_,h=>by
  have h':(none:Option Str)=some _:=h
  cases h'
end Lp.Law
theorem PySem.W.Fast.tw1983490135298873835:True:=trivial
theorem PySem.W.Fast.tw12256721335116059606:True:=trivial
theorem PySem.W.Fast.tw2874317125023798467:True:=trivial
theorem PySem.W.Fast.tw3794504232232241448:True:=trivial
theorem PySem.W.Fast.tw16446469705004779884:True:=trivial
theorem PySem.W.Fast.tw736032742308583749:True:=trivial
theorem PySem.W.Fast.tw6287089837381391244:True:=trivial
theorem PySem.W.Fast.tw8028001628486600497:True:=trivial
theorem PySem.W.Fast.tw13514811739642033027:True:=trivial
theorem PySem.W.Fast.tw156743251368357053:True:=trivial
theorem PySem.W.Fast.tw15068714472199936071:True:=trivial
theorem PySem.W.Fast.tw10516417584871415213:True:=trivial
theorem PySem.W.Fast.tw11918733289229733057:True:=trivial
theorem PySem.W.Fast.tw12451183996962685904:True:=trivial
theorem PySem.W.Fast.tw6146688785886879995:True:=trivial
theorem PySem.W.Fast.tw17758703392523374031:True:=trivial
theorem PySem.W.Fast.tw8682587602138239079:True:=trivial
theorem PySem.W.Fast.tw7244323490259854132:True:=trivial
theorem PySem.W.Fast.tw15003046216229055352:True:=trivial
theorem PySem.W.Fast.tw15855777974789332812:True:=trivial
theorem PySem.W.Fast.tw4033246697823636870:True:=trivial
theorem PySem.W.Fast.tw12739900271683286545:True:=trivial
theorem PySem.W.Fast.tw17970980796457174945:True:=trivial
theorem PySem.W.Fast.tw10027797590128889541:True:=trivial
theorem PySem.W.Fast.tw16679547456061839917:True:=trivial
theorem PySem.W.Fast.tw13253929191339428014:True:=trivial
theorem PySem.W.Fast.tw12565172474384224148:True:=trivial
open PySem PySem.W PyProof.Rows
set_option maxRecDepth 100000 in
set_option maxHeartbeats 0 in
theorem PySem.Challenge.cw_lamprota_k19_sides_holds : PySem.Challenge.rw_lamprota_k19_sides.Holds := by
 w_on;o_law;k_head;(case hw=>w_witness2)
 k_fill
 refine Lp.Ah (l:=PySem.Challenge.rw_lamprota_k19_sides) (n:=6) ⟨rfl,by decide,by decide⟩ rfl rfl (fun w h Y=>PySem.W.kIn_of Y) ?F
 case F =>
  intro w mg fa h KX G hmg
  have m0:Lp.ModOf (L2.KOf KX) mg Lp.Law.e0:=by
   dsimp only[L2.KOf]
   refine' Lp.Law.mk0 KX G ?a ?l ?c ?k
   (case a=>k_is);(case l=>k_is);(case c=>k_is);(case k=>k_is)
  have m1:Lp.ModOf (L2.KOf KX) mg Lp.Law.e1:=by
   dsimp only[L2.KOf]
   refine' Lp.Law.mk1 KX G ?a ?l ?c ?k
   (case a=>k_is);(case l=>k_is);(case c=>k_is);(case k=>k_is)
  have m2:Lp.ModOf (L2.KOf KX) mg Lp.Law.e2:=by
   dsimp only[L2.KOf]
   refine' Lp.Law.mk2 KX G ?a ?l ?c ?k
   (case a=>k_is);(case l=>k_is);(case c=>k_is);(case k=>k_is)
  have m3:Lp.ModOf (L2.KOf KX) mg Lp.Law.e3:=by
   dsimp only[L2.KOf]
   refine' Lp.Law.mk3 KX G ?a ?l ?c ?k
   (case a=>k_is);(case l=>k_is);(case c=>k_is);(case k=>k_is)
  have m4:Lp.ModOf (L2.KOf KX) mg Lp.Law.e4:=by
   dsimp only[L2.KOf]
   refine' Lp.Law.mk4 KX G ?a ?l ?c ?k
   (case a=>k_is);(case l=>k_is);(case c=>k_is);(case k=>k_is)
  have m5:Lp.ModOf (L2.KOf KX) mg Lp.Law.e5:=by
   dsimp only[L2.KOf]
   refine' Lp.Law.mk5 KX G ?a ?l ?c ?k
   (case a=>k_is);(case l=>k_is);(case c=>k_is);(case k=>k_is)
  have m6:Lp.ModOf (L2.KOf KX) mg Lp.Law.e6:=by
   dsimp only[L2.KOf]
   refine' Lp.Law.mk6 KX G ?a ?l ?c ?k
   (case a=>k_is);(case l=>k_is);(case c=>k_is);(case k=>k_is)
  have m7:Lp.ModOf (L2.KOf KX) mg Lp.Law.e7:=by
   dsimp only[L2.KOf]
   refine' Lp.Law.mk7 KX G ?a ?l ?c ?k
   (case a=>k_is);(case l=>k_is);(case c=>k_is);(case k=>k_is)
  have m8:Lp.ModOf (L2.KOf KX) mg Lp.Law.e8:=by
   dsimp only[L2.KOf]
   refine' Lp.Law.mk8 KX G ?a ?l ?c ?k
   (case a=>k_is);(case l=>k_is);(case c=>k_is);(case k=>k_is)
  have m9:Lp.ModOf (L2.KOf KX) mg Lp.Law.e9:=by
   dsimp only[L2.KOf]
   refine' Lp.Law.mk9 KX G ?a ?l ?c ?k
   (case a=>k_is);(case l=>k_is);(case c=>k_is);(case k=>k_is)
  have m10:Lp.ModOf (L2.KOf KX) mg Lp.Law.e10:=by
   dsimp only[L2.KOf]
   refine' Lp.Law.O4 KX G ?a ?l ?c ?k
   (case a=>k_is);(case l=>k_is);(case c=>k_is);(case k=>k_is)
  have m11:Lp.ModOf (L2.KOf KX) mg Lp.Law.e11:=by
   dsimp only[L2.KOf]
   refine' Lp.Law.O5 KX G ?a ?l ?c ?k
   (case a=>k_is);(case l=>k_is);(case c=>k_is);(case k=>k_is)
  have m12:Lp.ModOf (L2.KOf KX) mg Lp.Law.e12:=by
   dsimp only[L2.KOf]
   refine' Lp.Law.O6 KX G ?a ?l ?c ?k
   (case a=>k_is);(case l=>k_is);(case c=>k_is);(case k=>k_is)
  have b0:mg "zip"=none:=by
   refine' AY KX G ?z
   (case z=>k_is)
  have b1:mg "all"=none:=by
   refine' AY KX G ?z
   (case z=>k_is)
  have b2:mg "dict"=none:=by
   refine' AY KX G ?z
   (case z=>k_is)
  have b3:mg "sum"=none:=by
   refine' AY KX G ?z
   (case z=>k_is)
  have b4:mg "len"=none:=by
   refine' AY KX G ?z
   (case z=>k_is)
  have b5:mg "isinstance"=none:=by
   refine' AY KX G ?z
   (case z=>k_is)
  have b6:mg "tuple"=none:=by
   refine' AY KX G ?z
   (case z=>k_is)
  have b7:mg "range"=none:=by
   refine' AY KX G ?z
   (case z=>k_is)
  have b8:mg "str"=none:=by
   refine' AY KX G ?z
   (case z=>k_is)
  have b9:mg "int"=none:=by
   refine' AY KX G ?z
   (case z=>k_is)
  have b10:mg "bool"=none:=by
   refine' AY KX G ?z
   (case z=>k_is)
  have b11:mg "sorted"=none:=by
   refine' AY KX G ?z
   (case z=>k_is)
  have b12:mg "set"=none:=by
   refine' AY KX G ?z
   (case z=>k_is)
  have b13:mg "list"=none:=by
   refine' AY KX G ?z
   (case z=>k_is)
  exact Lp.C5 (T:=Lp.GL) (es:=Lp.Law.ents) (n:=6) (j:=12) (e:=Lp.Law.e12) (Lp.Law.mods m0 m1 m2 m3 m4 m5 m6 m7 m8 m9 m10 m11 m12) (fun base=>Lp.Law.dvs (Lp.Law.nob b0 b1 b2 b3 b4 b5 b6 b7 b8 b9 b10 b11 b12 b13)) rfl hmg rfl (fun ns hn=>Lr.Kx ns hn)
#print axioms PySem.Challenge.cw_lamprota_k19_sides_holds
