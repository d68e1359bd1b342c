import PyProof.Rows.All
import Wide.All
import OpenK.AllK
import Wide.FinOn
import Lean
import PyProof.EqAt
import PyProof.EqKinds
import PyProof.TupleCall
import PyProof.NeKinds
import PyProof.EnumMake
import PyProof.Rows.SeqMore2
import PyProof.ZipIter
import PyProof.Rows.SortRev
import PyProof.Rows.SortWalk
import PyProof.Rows.CallKwBuiltin
import PyProof.DictIter
import PyProof.DictWalks
import PyProof.MeetsDict
import PyProof.Conv_int_bool
import PyProof.EqAt
import PyProof.CollectWalk
import PyProof.Rows.SortShell
import PyProof.Rows.Range3
import PyProof.CallFns
import PyProof.StrBlockH
import PySem.Challenge.RW_turnroots_k19_all_roots_told
open List renaming length_map→eb7, getElem?_eq_getElem→eb8, getElem?_eq_some_iff→eb9, getElem?_map→ec1, getD_eq_getElem?_getD→ec3, map_append→ec4, mem_cons_self→ec5, length_append→ec6, mem_cons_of_mem→ec7, mem_of_getElem?→ec8, mem_singleton→ec9, mem_append→ed0, getElem?_eq_none→ed1, mem_map→ed2, size_toArray→ed4, nodup_iff_pairwise_ne→ed5, replicate→ed6, mem_append_right→ed8, append_assoc→ed9, mem_cons→ee0, length_take→ee1, append_nil→ee3, getElem?_append_left→ee4, mem_flatten→ee6, pairwise_iff_getElem→ee7, getElem?_append_right→ee8, length_range→ee9, getElem_mem→ef2, take_length→ef3, range→ef4, mem_append_left→ef7, mem_iff_getElem?→ef8, mem_range→eg0, length_drop→eg1, ext_getElem?→eg4, nodup_cons→eg5, map_cons→eg6, flatten_cons→eg7, getElem?_range→eg8, length_cons→eg9, nodup_append→eh0, flatMap_cons→eh1, map_map→eh3, map_congr_left→eh8, mem_filter→ei0, mem_flatMap→ei4, mem_of_mem_take→ei5, nodup_nil→ei6, getElem?_take_of_lt→ei7, take_append_drop→ei8, flatten_append→ej0, flatten_singleton→ej3, lookup_cons→ej7, length_eq_zero_iff→ej9, countP_cons→ek4, countP_eq_zero→ek5, perm_append_comm→ek6, filter_cons_of_pos→ek9, filter_cons_of_neg→el0, take_of_length_le→el3, pairwise_map→el4, drop_eq_getElem_cons→el5, flatMap_append→el6, length_replicate→el7, range_succ→el8, length_filter_le→el9, filterMap_cons→em5, replicate_succ→em6, all_eq_true→em9, flatMap_nil→en1, filter_append→en2, length_set→en5, sum_append→en6, pairwise_singleton→en7, length_reverse→eo0, drop_eq_nil_of_le→eo2, mem_reverse→eo3, take_zero→eo4, getElem?_drop→eo5, countP_map→eo7, mem_of_mem_drop→ep1, reverse_append→ep4, map_nil→ep5, pairwise_cons→ep6, getElem?_set_self→ep7, find?_cons→ep8, pairwise_lt_range→eq0, filter_nil→eq2, dropLast_concat_getLast→eq3, length_singleton→eq4, map_id→eq6, countP_congr→eq7, flatten→eq9, getElem?_set_ne→er0, length_dropLast→er1, reverse_reverse→er3, filter_sublist→er8, mem_filterMap→es5, countP_append→es6, getElem?_take→es7, map_set→es9, reverse_perm→et1, foldl_append→et2, length→et3, any_cons→et4, eraseIdxIfInBounds_toArray→et6, pairwise_reverse→et8, any_eq_true→et9, nodup_range→eu0, getElem?_reverse→eu2, countP_le_length→eu4, length_nil→eu5, countP_eq_length_filter→ev0, append_of_mem→ev3, perm_ext_iff_of_nodup→ew1, all_cons→ew2, extract_eq_take_drop→ew7, sum_cons→ew8, filterMap_cons_none→ex1, filterMap_cons_some→ex2, getElem?_replicate→ex8, getElem?_cons_zero→ey0, getElem?_cons_succ→ey1, of_mem_zip→ey4, drop_zero→ez0, take_succ→ez1, map_take→ez2
open Nat renaming le_refl→ec0, le_trans→ed3, zero_le→ed7, lt_of_le_of_lt→ee5, mod_eq_of_lt→ef1, lt_of_lt_of_le→ef5, gcd→ef6, le_mul_of_pos_right→ef9, ne_of_lt→eh2, zero_mul→eh4, le_of_lt→ei1, mul_comm→ei2, mod_lt→ei3, add_zero→ej1, mul_assoc→ej2, add_comm→ej4, zero_add→ej5, mul_le_mul→ej6, mul_pos→ej8, mul_le_mul_right→ek0, mul_zero→ek3, mul_one→ek7, mul_div_cancel_left→ek8, pow_le_pow_right→el2, lt_irrefl→em2, sub_self→em4, succ_mul→em8, eq_of_mul_eq_mul_left→en0, sub_add_cancel→en3, add_mul→en8, pow_succ→en9, pow_le_pow_left→eo1, eq_zero_or_pos→eo6, gcd_dvd_right→eo8, add_mod_right→eo9, add_le_add_left→ep2, le_mul_of_pos_left→eq1, le_of_eq→eq8, eq_of_mul_eq_mul_right→er4, add_assoc→er5, add_mul_mod_self_left→er6, mul_div_cancel'→er7, le_succ→er9, mul_add→es0, pow_zero→et0, div_eq_of_lt→eu1, div_add_mod→eu6, min_eq_left→eu8, mul_le_mul_left→eu9, dvd_of_mul_dvd_mul_left→ev1, coprime_div_gcd_div_gcd→ev2, lt_or_eq_of_le→ev5, add_sub_cancel→ev6, one_mul→ev8, Coprime→ev9, pow_mul→ew0, lt_succ_of_lt→ew4, le_of_dvd→ew6, gcd_pos_of_pos_right→ew9, succ_le_succ→ex3, gcd_dvd_left→ex4, gcd_mul_left→ex5, mul_succ→ex9, lt_or_ge→ey2, gcd_comm→ey3, mod_add_mod→ey6, mul_add_mod→ey7, pow_add→ey9
open Bool renaming false_ne_true→ee2, and_eq_true→eh9, false_eq_true→em0, eq_iff_iff→en4, or_eq_true→ey5
open Array renaming length_toList→ef0, toList_append→eh5, getElem?_toList→eh6, toList→ei9, perm_iff_toList_perm→em7, toList_push→ep0, toList_reverse→er2, getElem?_eq_getElem→ew5, toList_map→ex6
open Int renaming natCast_mul→eg2, toNat_natCast→eg3, emod_nonneg→eh7, emod_lt_of_pos→ek1, natAbs_natCast→el1, natCast_emod→em1, eq_ofNat_of_zero_le→em3, toNat_of_nonneg→ep3, toNat→eq5, emod_eq_zero_of_dvd→es8, dvd_self_sub_emod→et7, natCast_add→eu7, fdiv_eq_ediv_of_nonneg→ev7, natCast_ediv→ex7, natCast_sub→ey8
open Option renaming map_some→ep9, isSome_iff_exists→es4, isSome_map→ew3
set_option Elab.async false
set_option linter.all false
set_option maxRecDepth 100000
set_option maxHeartbeats 8000000
section
local macro_rules|`(tactic|omega)=>`(tactic|lia)
local macro_rules|`(tactic|trivial)=>`(tactic|first|exact .inl rfl|exact .inr rfl|assumption)
namespace L2
open PySem PySem.Spec PyProof.Rows
abbrev w6:=Sum Int Str
def ba2:w6->Value->Bool
 | .inl k,v=>Value.isInt k v
 | .inr x,v=>Value.isStrOf x v
def dw7 (w:World):w6->Int
 | .inl k=>hashInt k
 | .inr x=>hashStr w x
theorem M8:∀{k:w6} {v:Value},ba2 k v=true->(∃i t,k=Sum.inl i/\v=Value.int i t)\/(∃x t,k=Sum.inr x/\v=Value.str x t)
 | .inl i,v,h=>by
   obtain ⟨t,e⟩:=Value.isInt_shape (k:=i) (v:=v) h;exact .inl ⟨i,t,rfl,e⟩
 | .inr x,v,h=>by
   obtain ⟨t,e⟩:=Value.isStrOf_shape (x:=x) (v:=v) h;exact .inr ⟨x,t,rfl,e⟩
theorem cm2 (i:Int)(t:Tok):ba2 (.inl i) (.int i t)=true:=by simp [ba2,Value.isInt]
theorem cm3 (x:Str)(t:Tok):ba2 (.inr x) (.str x t)=true:=by simp [ba2,Value.isStrOf]
theorem dj8 (a b:Int):decide ((Sum.inl a:w6)=Sum.inl b)=(a==b):=by
 by_cases e:a=b
 · subst e;simp
 · have h:¬(Sum.inl a:w6)=Sum.inl b:=fun q=>e (Sum.inl.inj q)
   rw[decide_eq_false h];exact (beq_eq_false_iff_ne.mpr e).symm
theorem dj9 (a b:Str):decide ((Sum.inr a:w6)=Sum.inr b)=decide (a=b):=by
 by_cases e:a=b
 · subst e;simp
 · have h:¬(Sum.inr a:w6)=Sum.inr b:=fun q=>e (Sum.inr.inj q)
   rw[decide_eq_false h,decide_eq_false e]
theorem dk0 (a:Int)(b:Str):decide ((Sum.inl a:w6)=Sum.inr b)=false:=decide_eq_false (fun q=>nomatch q)
theorem dk1 (a:Str)(b:Int):decide ((Sum.inr a:w6)=Sum.inl b)=false:=decide_eq_false (fun q=>nomatch q)
def E6 (prog:Program)(w:World):PySem.KeyKind prog w w6 where
 is:=ba2
 hash:=dw7 w
 inj:=fun v a b ha hb=>by
   rcases M8 ha with ⟨i,t,rfl,rfl⟩|⟨x,t,rfl,rfl⟩
   · rcases M8 hb with ⟨j,u,rfl,e⟩|⟨y,u,rfl,e⟩
     · injection e with e1 _;rw[e1]
     · exact nomatch e
   · rcases M8 hb with ⟨j,u,rfl,e⟩|⟨y,u,rfl,e⟩
     · exact nomatch e
     · injection e with e1 _;rw[e1]
 byValue:=fun k v h=>by
   rcases M8 h with ⟨i,t,rfl,rfl⟩|⟨x,t,rfl,rfl⟩<;>rfl
 pyHash:=fun hv h=>by
   rcases M8 hv with ⟨i,t,rfl,rfl⟩|⟨x,t,rfl,rfl⟩
   · exact wpAny_pyHash_int h
   · exact wpAny_pyHash_str h
 eqBool:=fun hu hv h=>by
   rcases M8 hu with ⟨i,t,rfl,rfl⟩|⟨x,t,rfl,rfl⟩
   · rcases M8 hv with ⟨j,u,rfl,rfl⟩|⟨y,u,rfl,rfl⟩
     · rw[dj8] at h;exact wpAny_eqBool_int h
     · rw[dk0] at h;exact SeqAt.EqAt.int_str i t y u _ _ _ _ h
   · rcases M8 hv with ⟨j,u,rfl,rfl⟩|⟨y,u,rfl,rfl⟩
     · rw[dk1] at h;exact SeqAt.EqAt.str_int x t j u _ _ _ _ h
     · rw[dj9] at h;exact wpAny_eqBool_str h
 «strs»:=fun k x t v h=>by
   rcases M8 h with ⟨i,u,rfl,e⟩|⟨y,u,rfl,e⟩
   · exact nomatch e
   · injection e with e1 _
     subst e1
     cases v<;>rfl
theorem bc7 (prog:Program)(w:World)(i:Int)(t:Tok):(E6 prog w).is (.inl i) (.int i t)=true:=cm2 i t
theorem bc8 (prog:Program)(w:World)(x:Str)(t:Tok):(E6 prog w).is (.inr x) (.str x t)=true:=cm3 x t
end L2
namespace L2
open PySem PySem.Spec PyProof.Rows
inductive V where
 |non|bl (b:Bool)|int (i:Int)|str (x:Str)|byt (b:Array UInt8)|flt (b:UInt64)|ref (a:Addr)|ty (n:String)
 deriving DecidableEq
def o7:V->Value->Prop
 | .non,u=>u=Value.none
 | .bl b,u=>u=Value.bool b
 | .int i,u=>∃t,u=Value.int i t
 | .str x,u=>∃t,u=Value.str x t
 | .byt b,u=>∃t,u=Value.bytes b t
 | .flt b,u=>∃t,u=Value.float b t
 | .ref a,u=>u=Value.ref a
 | .ty n,u=>u=Value.type n
abbrev l8:List V->List Value->Prop:=Paired o7
theorem l8.length {xs:List V}{us:List Value}(r:l8 xs us):xs.length=us.length:=Paired.length r
theorem l8.get:∀{xs:List V} {us:List Value} {i:Nat} {x:V},l8 xs us->xs[i]? =some x->∃u,us[i]? =some u/\o7 x u
 |_,_,_,_,.nil,e=>by simp at e
 |_,_,0,_,.cons r _,e=>by simp at e;subst e;exact ⟨_,rfl,r⟩
 |_,_,i+1,x,.cons _ t,e=>by
  obtain ⟨u,h1,h2⟩:=l8.get (i:=i) (x:=x) t (by simpa using e);exact ⟨u,by simpa using h1,h2⟩
theorem l8.set {x:V}{u:Value}(r:o7 x u):∀{xs:List V} {us:List Value} (i:Nat),l8 xs us->l8 (xs.set i x) (us.set i u)
 |_,_,_,.nil=> .nil
 |_,_,0,.cons _ t=> .cons r t
 |_,_,i+1,.cons q t=> .cons q (l8.set r i t)
theorem l8.append:∀{xs ys:List V} {us ws:List Value},l8 xs us->l8 ys ws->l8 (xs++ys) (us++ws)
 |_,_,_,_,.nil,s=>s
 |_,_,_,_,.cons r t,s=> .cons r (l8.append t s)
theorem l8.take:∀{xs:List V} {us:List Value} (n:Nat),l8 xs us->l8 (xs.take n) (us.take n)
 |_,_,0,_=> .nil
 |_,_,_+1,.nil=> .nil
 |_,_,n+1,.cons r t=> .cons r (l8.take n t)
theorem l8.drop:∀{xs:List V} {us:List Value} (n:Nat),l8 xs us->l8 (xs.drop n) (us.drop n)
 |_,_,0,r=>r
 |_,_,_+1,.nil=> .nil
 |_,_,n+1,.cons _ t=>l8.drop n t
def ac3:Option V->Option Value->Prop
 |some v,some u=>o7 v u
 |none,none=>True
 |_,_=>False
def KV {κ:Type}:List (κ×V)->List (κ×Value)->Prop:=Paired fun (p:κ×V) (q:κ×Value)=>p.1=q.1/\o7 p.2 q.2
def kV:w6->V
 | .inl i=> .int i
 | .inr x=> .str x
inductive HO where
 |lst (xs:List V)
 |tup (xs:List V)
 |dK (kvs:List (w6×V))|dT (kvs:List (List w6×V))
 |set (S:Int->Bool) (n:Nat)
 |ins (C dx:Addr) (fs:List (Str×V))
 |own (x:Addr)
 |xd (fs:List (Str×V))
 |met (f x:Addr)
 |rng (lo hi:Int)
 |frz (o:Obj) (u:HO)
 |tbl (ps:Array Value)
 |ext (φ:Heap->Prop)
abbrev Hp:=Addr->Option HO
def c9 (H:Hp)(a:Addr)(o:HO):Hp:=fun b=>if b=a then some o else H b
theorem c8 {H:Hp}{a:Addr}{o:HO}:c9 H a o a=some o:=by unfold c9;rw[if_pos rfl]
theorem g6 {H:Hp}{a b:Addr}{o:HO}(h:b≠a):c9 H a o b=H b:=by unfold c9;rw[if_neg h]
theorem dd3 {H:Hp}{a:Addr}{o u:HO}:c9 (c9 H a o) a u=c9 H a u:=by
 funext b;unfold c9;split<;>rfl
theorem ci3 {H:Hp}{a b:Addr}{o u:HO}(h:H a=some o)(h':H b=some u)(d:o≠u):a≠b:=by
 intro e;subst e;rw[h] at h';exact d (Option.some.inj h')
theorem g7 {H:Hp}{a b:Addr}{o:HO}(h:H a=some o)(h':H b=none):a≠b:=by
 intro e;subst e;rw[h] at h';cases h'
section
variable (P:Program) (w:World)
def B0 (H:Hp)(h:Heap)(a:Addr):HO->Prop
 | .lst xs=>xs.length<=sizeLine/\∃(its:List Value) (n:Nat),l8 xs its/\h.get? a=some {cls:= .type "list",data:= .seq its.toArray n}
 | .tup xs=>xs.length<=sizeLine/\∃its:List Value,l8 xs its/\IsTup h a its.toArray
 | .dK kvs=>kvs.length<=sizeLine/\(a==sysModules)=false/\∃vs,KV kvs vs/\h.DictOf (E6 P w) a vs
 | .dT kvs=>kvs.length<=sizeLine/\(a==sysModules)=false/\∃xs:List (List w6×Addr×Value),
     Paired (fun (p:List w6×V) (q:List w6×Addr×Value)=>p.1=q.1/\H q.2.1=some (.tup (p.1.map kV))/\o7 p.2 q.2.2) kvs xs/\
     ∃o es ep,h.get? a=some o/\o.ExactDict/\o.data= .dict es ep/\es.toList=xs.map (entryOfKey (tupleKind (E6 P w)))/\(xs.map (·.1)).Nodup
 | .set S n=>h.SetOf (intKind P w) a S n
 | .ins C dx fs=>H dx=some (.own a)/\fs.length<=1000/\dx≠a/\h.get? a=some (PySem.W.instObj C dx)/\
     ∃mA,h.Ns1 dx mA/\(∀f,ac3 (fs.lookup f) (mA f))/\PySem.Within mA (fs.map (·.1))
 | .own _=>∃o,h.get? a=some o
 | .xd fs=>∃mA,h.Ns1 a mA/\∀f,ac3 (fs.lookup f) (mA f)
 | .rng lo hi=>∃t u v,h.get? a=some {cls:= .type "range",data:= .fields #[.int lo t,.int hi u,.int 1 v]}
 | .frz o u=>h.get? a=some o/\B0 H h a u
 | .tbl ps=>h.get? a=some {cls:= .none,data:= .fields ps}
 | .met f x=>h.get? a=some (PySem.W.methodObj (.ref f) (.ref x))
 | .ext φ=>φ h/\(∃o,h.get? a=some o)/\∀h1 h2:Heap,φ h1->(∀o,h1.get? a=some o->h2.get? a=some o)->φ h2
def K5 (H:Hp)(h:Heap):Prop:=∀a o,H a=some o->B0 P w H h a o
end
section
variable {P:Program} {w:World} {H H':Hp} {h h':Heap} {a:Addr} {o:HO}
theorem B0.lt (x:B0 P w H h a o):a < h.objs.size:=by
 cases o with
 |lst xs=>obtain ⟨_,_,_,_,e⟩:=x;exact Heap.lt_size e
 |tup xs=>obtain ⟨_,_,_,p⟩:=x;exact p.lt
 |dK kvs=>obtain ⟨_,_,_,_,o,_,_,e,_⟩:=x;exact Heap.lt_size e
 |dT kvs=>obtain ⟨_,_,_,_,o,_,_,e,_⟩:=x;exact Heap.lt_size e
 |set S n=>obtain ⟨o,_,_,_,e,_⟩:=x;exact Heap.lt_size e
 |ins C dx fs=>obtain ⟨_,_,_,e,_⟩:=x;exact Heap.lt_size e
 |own y=>obtain ⟨_,e⟩:=x;exact Heap.lt_size e
 |xd fs=>obtain ⟨_,⟨_,_,_,e,_⟩,_⟩:=x;exact Heap.lt_size e
 |rng lo hi=>obtain ⟨_,_,_,e⟩:=x;exact Heap.lt_size e
 |frz ob u=>obtain ⟨e,_⟩:=x;exact Heap.lt_size e
 |tbl ps=>exact Heap.lt_size (show h.get? a=some _ from x)
 |met f y=>exact Heap.lt_size (show h.get? a=some _ from x)
 |ext φ=>obtain ⟨_,⟨_,e⟩,_⟩:=x;exact Heap.lt_size e
theorem Paired.mapP {α β:Type}{F G:α->β->Prop}:∀{l₁:List α} {l₂:List β},Paired F l₁ l₂->(∀a b,F a b->G a b)->Paired G l₁ l₂
 |_,_,.nil,_=> .nil
 |_,_,.cons r t,f=> .cons (f _ _ r) (Paired.mapP t f)
theorem B0.stay (x:B0 P w H h a o)(k:∀b u,(b=a\/H b=some (.own a))->h.get? b=some u->h'.get? b=some u)
   (ho:∀b,H b=some (.own a)->H' b=some (.own a)) (ht:∀b xs,H b=some (.tup xs)->H' b=some (.tup xs)):B0 P w H' h' a o:=by
 induction o with
 |lst xs=>obtain ⟨z,its,n,r,e⟩:=x;exact ⟨z,its,n,r,k _ _ (.inl rfl) e⟩
 |tup xs=>obtain ⟨z,its,r,ob,e,c⟩:=x;exact ⟨z,its,r,ob,k _ _ (.inl rfl) e,c⟩
 |dK kvs=>obtain ⟨z,y,vs,r,ob,es,ep,e,c⟩:=x;exact ⟨z,y,vs,r,ob,es,ep,k _ _ (.inl rfl) e,c⟩
 |dT kvs=>
  obtain ⟨z,y,xs,r,ob,es,ep,e,c⟩:=x;exact ⟨z,y,xs,Paired.mapP r fun p q z=>⟨z.1,ht _ _ z.2.1,z.2.2⟩,ob,es,ep,k _ _ (.inl rfl) e,c⟩
 |set S n=>obtain ⟨ob,es,ep,t,e,c⟩:=x;exact ⟨ob,es,ep,t,k _ _ (.inl rfl) e,c⟩
 |ins C dx fs=>
  obtain ⟨d,z,ne,e,mA,⟨od,es,ep,e2,c⟩,r⟩:=x;exact ⟨ho _ d,z,ne,k _ _ (.inl rfl) e,mA,⟨od,es,ep,k _ _ (.inr d) e2,c⟩,r⟩
 |own y=>obtain ⟨ob,e⟩:=x;exact ⟨ob,k _ _ (.inl rfl) e⟩
 |xd fs=>obtain ⟨mA,⟨od,es,ep,e,c⟩,r⟩:=x;exact ⟨mA,⟨od,es,ep,k _ _ (.inl rfl) e,c⟩,r⟩
 |rng lo hi=>obtain ⟨t,u,v,e⟩:=x;exact ⟨t,u,v,k _ _ (.inl rfl) e⟩
 |frz ob u ih=>obtain ⟨e,q⟩:=x;exact ⟨k _ _ (.inl rfl) e,ih q⟩
 |tbl ps=>
  have e:h.get? a=some {cls:= .none,data:= .fields ps}:=x;show h'.get? a=some {cls:= .none,data:= .fields ps};exact k a _ (.inl rfl) e
 |met f y=>
  have e:h.get? a=some (PySem.W.methodObj (.ref f) (.ref y)):=x;show h'.get? a=some (PySem.W.methodObj (.ref f) (.ref y));exact k a _ (.inl rfl) e
 |ext φ=>obtain ⟨p,⟨o,e⟩,st⟩:=x;exact ⟨st _ _ p fun o q=>k _ _ (.inl rfl) q,⟨o,k _ _ (.inl rfl) e⟩,st⟩
theorem K5.lt (x:K5 P w H h)(e:H a=some o):a < h.objs.size:=(x a o e).lt
theorem K5.fresh (x:K5 P w H h)(e:h.objs.size<=a):H a=none:=by
 cases q:H a with
 |none=>rfl
 |some u=>exact absurd (ef5 (x.lt q) e) (em2 _)
theorem K5.kept (x:K5 P w H h)(k:∀b u,h.get? b=some u->h'.get? b=some u):K5 P w H h':=fun a o e=>
 (x a o e).stay (fun b u _ q=>k b u q) (fun _ q=>q) fun _ _ q=>q
theorem K5.laid (x:K5 P w H h)(k:∀b u,h.get? b=some u->h'.get? b=some u)(hp:h.objs.size<=a)(new:B0 P w (c9 H a o) h' a o):K5 P w (c9 H a o) h':=fun b u e=>by
 have hn:=x.fresh hp
 by_cases hb:b=a
 · subst hb;rw[c8] at e;cases e;exact new
 · rw[g6 hb] at e
   exact (x b u e).stay (fun c v _ q=>k c v q) (fun c q=>by rw[g6 (g7 q hn)];exact q) fun c xs q=>by rw[g6 (g7 q hn)];exact q
end
def Rd (H:Hp)(a:Addr)(u:HO):Prop:=H a=some u\/∃o,H a=some (.frz o u)
theorem Rd.ok {P:Program}{w:World}{H:Hp}{h:Heap}{a:Addr}{u:HO}(r:Rd H a u)(x:K5 P w H h):B0 P w H h a u:=by
 rcases r with r|⟨o,r⟩
 · exact x a u r
 · obtain ⟨_,q⟩:=x a _ r;exact q
def Mut:Option HO->Prop
 |some (.lst _)=>True
 |some (.dK _)=>True
 |some (.dT _)=>True
 |some (.set _ _)=>True
 |some (.ins _ _ _)=>True
 |some (.ext _)=>True
 |_=>False
section
variable {P:Program} {w:World} {H:Hp} {h h':Heap} {x e:Addr} {o':HO}
theorem K5.write (ok:K5 P w H h)(mu:Mut (H x))(he:e=x\/H e=some (.own x))(k:∀b u,b≠e->h.get? b=some u->h'.get? b=some u)(heo:∃u,h'.get? e=some u)
   (new:B0 P w (c9 H x o') h' x o'):K5 P w (c9 H x o') h':=fun b u q=>by
 have nown:∀c y,H c=some (.own y)->c≠x:=fun c y r z=>by subst z;rw[r] at mu;exact mu
 have ntup:∀c xs,H c=some (.tup xs)->c≠x:=fun c xs r z=>by subst z;rw[r] at mu;exact mu
 by_cases hb:b=x
 · subst hb;rw[c8] at q;cases q;exact new
 · rw[g6 hb] at q
   by_cases hbe:b=e
   · have q':H b=some (.own x):=by
       rcases he with z|z
       · exact absurd (hbe.trans z) hb
       · rw[hbe];exact z
     rw[q] at q';cases q';obtain ⟨v,hv⟩:=heo;exact ⟨v,by rw[hbe];exact hv⟩
   · refine (ok b u q).stay (fun c v hc r=>k c v ?_ r) (fun c r=>by rw[g6 (nown c b r)];exact r) fun c xs r=>by rw[g6 (ntup c xs r)];exact r
     rcases hc with rfl|hc
     · exact hbe
     · rintro rfl
       rcases he with z|z
       · exact nown c b hc z
       · rw[hc] at z;cases z;exact hb rfl
end
structure Un (fs ex:List Addr)(H H':Hp)(h h':Heap):Prop where
 keep:∀b o,h.get? b=some o->H b=none->b∉fs->b∉ex->h'.get? b=some o
 slot:∀b o,h.get? b=some o->H b=none->b∈fs->b∉ex->∃sl,h'.get? b=some {o with slots:=sl}
 free:∀b o,h.get? b=some o->H b=none->b∉ex->H' b=none
 there:∀b o,h.get? b=some o->b∉ex->∃o',h'.get? b=some o'
 tups:∀b xs,H b=some (.tup xs)->H' b=some (.tup xs)
 frzs:∀b o u,H b=some (.frz o u)->H' b=some (.frz o u)
 tbls:∀b ps,H b=some (.tbl ps)->∃more,H' b=some (.tbl (ps++more))
section
variable {fs fs' ex ex':List Addr} {H H1 H2:Hp} {h h1 h2 h':Heap} {a x e:Addr} {o:HO}
theorem Un.any (u:Un fs ex H H1 h h1){b:Addr}{ob:Obj}(q:h.get? b=some ob)(n:H b=none)(hx:b∉ex):∃sl,h1.get? b=some {ob with slots:=sl}:=by
 by_cases hb:b∈fs
 · exact u.slot b ob q n hb hx
 · exact ⟨ob.slots,u.keep b ob q n hb hx⟩
theorem Un.kept (k:∀b u,h.get? b=some u->h'.get? b=some u):Un fs ex H H h h':=
 ⟨fun b ob q _ _ _=>k b ob q,fun b ob q _ _ _=>⟨ob.slots,k b ob q⟩,fun _ _ _ n _=>n,fun b ob q _=>⟨ob,k b ob q⟩,fun _ _ q=>q,fun _ _ _ q=>q,fun _ ps q=>⟨#[],by rw[q];simp⟩⟩
theorem Un.refl:Un fs ex H H h h:=Un.kept fun _ _ q=>q
theorem Un.laid (k:∀b u,h.get? b=some u->h'.get? b=some u)(hp:h.objs.size<=a)(hn:H a=none):Un fs ex H (c9 H a o) h h' where
 keep:=fun b u q _ _ _=>k b u q
 slot:=fun b u q _ _ _=>⟨u.slots,k b u q⟩
 free:=fun b u q n _=>by rw[g6 (eh2 (ef5 (Heap.lt_size q) hp))];exact n
 there:=fun b u q _=>⟨u,k b u q⟩
 tups:=fun b xs q=>by rw[g6 (g7 q hn)];exact q
 frzs:=fun b u xs q=>by rw[g6 (g7 q hn)];exact q
 tbls:=fun b ps q=>⟨#[],by rw[g6 (g7 q hn),q];simp⟩
theorem Un.write (mu:Mut (H x))(he:e=x\/H e=some (.own x))(k:∀b u,b≠e->h.get? b=some u->h'.get? b=some u)(heo:∃u,h'.get? e=some u):Un fs ex H (c9 H x o) h h':=by
 have hx:∀b,H b=none->b≠x:=fun b n z=>by subst z;rw[n] at mu;exact mu
 have hb:∀b,H b=none->b≠e:=fun b n z=>by
   subst z
   rcases he with r|r
   · exact hx b n r
   · rw[n] at r;cases r
 have hm:∀b u,H b=some u->¬Mut (some u)->b≠x:=fun b u q nm z=>by subst z;rw[q] at mu;exact nm mu
 refine ⟨fun b u q n _ _=>k b u (hb b n) q,fun b u q n _ _=>⟨u.slots,k b u (hb b n) q⟩,fun b u q n _=>by rw[g6 (hx b n)];exact n,fun b u q _=> ?_,
   fun b xs q=>by rw[g6 (hm b _ q fun z=>z)];exact q,fun b u xs q=>by rw[g6 (hm b _ q fun z=>z)];exact q,fun b ps q=>⟨#[],by rw[g6 (hm b _ q fun z=>z),q];simp⟩⟩
 by_cases hbe:b=e
 · subst hbe;exact heo
 · exact ⟨u,k b u hbe q⟩
end
def trk (h:Heap)(H:Hp):List Addr:=(ef4 h.objs.size).filter fun a=>(H a).isSome
def aq4 (h:Heap)(H:Hp):Heap:=PySem.W.hideAll h (trk h H)
theorem cm5 (h:Heap)(H:Hp):(aq4 h H).objs.size=h.objs.size:=PySem.W.hideAll_size _ _
theorem cw4 {h:Heap}{H:Hp}{b:Addr}{o:Obj}(e:h.get? b=some o)(n:H b=none):(aq4 h H).get? b=some o:=
 PySem.W.hideAll_get _ e fun hm=>by
   have q:(H b).isSome=true:=(ei0.mp hm).2;rw[n] at q;simp at q
theorem dd4 {h:Heap}{H:Hp}{b:Addr}{o:Obj}(e:(aq4 h H).get? b=some o):h.get? b=some o/\H b=none:=by
 have e':h.get? b=some o:=PySem.W.of_hideAll (trk h H) e;refine ⟨e',?_⟩
 cases q:H b with
 |none=>rfl
 |some x=>
  have hm:b∈trk h H:=ei0.mpr ⟨eg0.mpr (Heap.lt_size e'),by simp [q]⟩;have z:(aq4 h H).get? b=none:=PySem.W.hideAll_none (trk h H) hm;rw[z] at e;cases e
end L2
namespace L2
open PySem PySem.Spec PyProof.Rows
structure Mod (K:PySem.W.Frag)(mg:Str->Option Value)(base:Heap):Prop where
 kin:K.In base
 glob:base.Ns mainGlobals mg
 blt:∃mb,base.Ns builtinsNs mb/\∀x:Str,x≠"__name__"->mb x=bootBuiltins x
 nolimit:base.NoLimit
structure Cx where
 prog:Program
 w:World
 K:PySem.W.Frag
 mg:Str->Option Value
 base:Heap
 A:Around
 N:List Str
 s₀:Shared
 H₀:Hp
 env:Env
 outer:List Env
 stack:List Env
 ex:List Addr
 fn:Str->Bool
 calm:Bool
 pn:List (Addr×Obj)
 xe:Value->Shared->Prop
def J8 (l:List Env):List Addr:=l.filterMap (·.frame)
abbrev Cx.fs (X:Cx):List Addr:=J8 X.outer
def Vis (sc:Scope)(x:Str):Prop:=sc.names.lookup x=some .local\/sc.names.lookup x=some .cell\/sc.names.lookup x=some .free
def Loc (sc:Scope)(x:Str):Prop:=sc.names.lookup x=some .local\/sc.names.lookup x=some .cell
def dw8 (env:Env)(h:Heap)(m:Str->Option Value)(x:Str)(u:Value):Prop:=
 (env.kindOf x=some .local/\m x=some u)\/((env.kindOf x=some .cell\/env.kindOf x=some .free)/\∃c,env.cells.lookup x=some c/\h.IsCell c (some u))
structure Cx.Ok (X:Cx):Prop where
 mod:Mod X.K X.mg X.base
 kind:X.env.scope.kind= .function
 glob:X.env.globals=mainGlobals
 blt:X.env.builtins=builtinsNs
 above:X.s₀.heap.objs.size<=X.env.locals
 inj:∀x y c,X.env.cells.lookup x=some c->X.env.cells.lookup y=some c->x=y
 has:∀x,(X.env.kindOf x=some .cell\/X.env.kindOf x=some .free)->∃c,X.env.cells.lookup x=some c
 cab:∀x c,X.fn x=true->X.env.cells.lookup x=some c->X.s₀.heap.objs.size<=c
 hd:X.calm=true->X.A.handled=none
 frames:X.A.frames=some X.stack
 stk:X.stack=X.outer\/(X.stack=X.env::X.outer/\X.env.frame=some X.env.locals)
 exf:∀b∈X.ex,b≠X.env.locals/\∀x c,X.env.cells.lookup x=some c->c≠b
 bs:∀b o,X.base.get? b=some o->X.s₀.heap.get? b=some o/\X.H₀ b=none
 bsz:X.base.objs.size<=X.s₀.heap.objs.size
 noex:∀b o,X.base.get? b=some o->b∉X.ex
 exfs:∀b∈X.ex,b∉X.fs
 funs:X.s₀.heap.FunFrames X.base X.outer
 frf:∀b∈X.fs,X.H₀ b=none
structure i4 (X:Cx)(pins:List (Addr×Obj))(σ:List (Option V))(H:Hp)(s:Shared):Prop where
 ok:X.Ok
 os:s.os=X.s₀.os
 bare:AllBare s.gens
 base:Un X.fs X.ex X.H₀ H X.s₀.heap s.heap
 loc:∃m,s.heap.Ns X.env.locals m/\∀(i:Nat) (x:Str) (v:V),X.N[i]? =some x->σ[i]? =some (some v)->Vis X.env.scope x->∃u,o7 v u/\dw8 X.env s.heap m x u
 cell:∀x c,X.env.cells.lookup x=some c->∃v,s.heap.IsCell c v
 free:H X.env.locals=none
 freeC:∀x c,X.env.cells.lookup x=some c->H c=none
 pin:∀p∈X.pn++pins,s.heap.get? p.1=some p.2/\H p.1=none/\p.1≠X.env.locals/\p.1∉X.fs/\∀v,p.2.data≠.cell v
 hok:K5 X.prog X.w H s.heap
 len:σ.length=X.N.length
section
variable {X:Cx} {pins:List (Addr×Obj)} {σ:List (Option V)} {H H':Hp} {s:Shared} {h':Heap}
theorem Cx.Ok.nofr (ok:X.Ok){b:Addr}{o:Obj}(e:X.base.get? b=some o):b∉X.fs:=fun hb=>by
 have:=(ok.funs.mem hb).1;rw[e] at this;cases this
theorem i4.bs (I:i4 X pins σ H s):∀b o,X.base.get? b=some o->s.heap.get? b=some o/\H b=none:=fun b o e=>
 ⟨I.base.keep b o (I.ok.bs b o e).1 (I.ok.bs b o e).2 (I.ok.nofr e) (I.ok.noex b o e),I.base.free b o (I.ok.bs b o e).1 (I.ok.bs b o e).2 (I.ok.noex b o e)⟩
theorem i4.bk (I:i4 X pins σ H s):∀b o,X.base.get? b=some o->s.heap.get? b=some o:=fun b o e=>(I.bs b o e).1
theorem i4.mod (I:i4 X pins σ H s):Mod X.K X.mg X.base:=I.ok.mod
theorem i4.kIn (I:i4 X pins σ H s):X.K.In s.heap:=I.ok.mod.kin.keeps I.bk
theorem i4.lt (I:i4 X pins σ H s):X.env.locals < s.heap.objs.size:=let ⟨_,hn,_⟩:=I.loc;hn.lt
theorem i4.sz (I:i4 X pins σ H s):X.s₀.heap.objs.size<=s.heap.objs.size:=ed3 I.ok.above (ei1 I.lt)
theorem i4.nofs (I:i4 X pins σ H s){a:Addr}(h:s.heap.objs.size<=a):a∉X.fs:=fun hb=>by
 obtain ⟨_,o,ho,_⟩:=I.ok.funs.mem hb;exact absurd (ef5 (Heap.lt_size ho) (ed3 I.sz h)) (em2 _)
theorem i4.cne (I:i4 X pins σ H s):∀x c,X.env.cells.lookup x=some c->c≠X.env.locals:=fun x c e z=>by
 obtain ⟨v,o,ho,hd⟩:=I.cell x c e;obtain ⟨m,⟨o',es,ep,ho',hd',_⟩,_⟩:=I.loc;rw[z,ho'] at ho;cases ho;rw[hd'] at hd;cases hd
theorem i4.funs (I:i4 X pins σ H s):s.heap.FunFrames X.base X.outer:=by
 have all:∀(l:List Env),(∀b∈J8 l,b∈X.fs)->X.s₀.heap.FunFrames X.base l->s.heap.FunFrames X.base l:=by
   intro l
   induction l with
   |nil=>intro _ _;trivial
   |cons env r ih=>
    intro hs hl;obtain ⟨hk,⟨L,o,hf,hn,ho,hd⟩,hr⟩:=hl;have hL:L∈X.fs:=hs L (by unfold J8;rw[em5,hf];exact ec5)
    obtain ⟨sl,e⟩:=I.base.slot L o ho (I.ok.frf L hL) hL fun z=>I.ok.exfs L z hL
    exact ⟨hk,⟨L,_,hf,hn,e,hd⟩,ih (fun b hb=>hs b (by unfold J8;rw[em5,hf];exact ec7 _ hb)) hr⟩
 exact all X.outer (fun _ hb=>hb) I.ok.funs
theorem i4.stack (I:i4 X pins σ H s):s.heap.FunFrames X.base X.stack:=by
 rcases I.ok.stk with e|⟨e,hf⟩
 · rw[e];exact I.funs
 · rw[e];obtain ⟨m,hn,_⟩:=I.loc;refine .cons (by rw[I.ok.kind];decide) hf hn ?_ I.funs;exact Heap.get?_none_of_le (ed3 I.ok.bsz I.ok.above)
theorem i4.stkSub (I:i4 X pins σ H s):∀b∈J8 X.stack,b∈X.env.locals::X.fs:=fun b hb=>by
 rcases I.ok.stk with e|⟨e,hf⟩
 · rw[e] at hb;exact ec7 _ hb
 · rw[e] at hb;unfold J8 at hb;rw[em5,hf] at hb;exact hb
theorem i4.stkFree (I:i4 X pins σ H s):∀b∈J8 X.stack,H b=none:=fun b hb=>by
 rcases ee0.mp (I.stkSub b hb) with e|hb
 · rw[e];exact I.free
 · obtain ⟨_,o,ho,_⟩:=I.ok.funs.mem hb
   exact I.base.free b o ho (I.ok.frf b hb) fun z=>I.ok.exfs b z hb
theorem i4.step {g':Array GenState}{t':Nat}{d':Drawn}{ch:List Addr}(I:i4 X pins σ H s)
   (hch:∀b∈ch,(b∈X.ex\/X.s₀.heap.objs.size<=b)/\b≠X.env.locals/\(∀x c,X.env.cells.lookup x=some c->c≠b)/\∀p∈X.pn++pins,p.1≠b)
   (keep:∀b o,b≠X.env.locals->b∉X.fs->b∉ch->s.heap.get? b=some o->H b=none->h'.get? b=some o)
   (slot:∀b o,b≠X.env.locals->b∈X.fs->b∉ch->s.heap.get? b=some o->H b=none->∃sl,h'.get? b=some {o with slots:=sl}) (free:∀b o,b∉ch->s.heap.get? b=some o->H b=none->H' b=none)
   (there:∀b o,b∉ch->s.heap.get? b=some o->∃o',h'.get? b=some o')
   (tups:∀b xs,H b=some (.tup xs)->H' b=some (.tup xs)) (frzs:∀b o u,H b=some (.frz o u)->H' b=some (.frz o u)) (tbls:∀b ps,H b=some (.tbl ps)->∃more,H' b=some (.tbl (ps++more)))
   (ns:∀m,s.heap.Ns X.env.locals m->h'.Ns X.env.locals m) (hok:K5 X.prog X.w H' h') (hg:AllBare g'):
   i4 X pins σ H' {s with heap:=h',gens:=g',drawn:=d',toks:=t'}:=by
 have neL:∀b o,X.s₀.heap.get? b=some o->b≠X.env.locals:=fun b o e=>eh2 (ef5 (Heap.lt_size e) I.ok.above)
 have neC:∀b o,X.s₀.heap.get? b=some o->b∉X.ex->b∉ch:=fun b o e hx hb=>by
   rcases (hch b hb).1 with z|z
   · exact hx z
   · exact absurd (ef5 (Heap.lt_size e) z) (em2 _)
 have cellK:∀x c,X.env.cells.lookup x=some c->∀v,s.heap.IsCell c v->h'.IsCell c v:=fun x c e v ⟨o,ho,hd⟩=>by
   have nch:c∉ch:=fun z=>(hch c z).2.2.1 x c e rfl
   by_cases hc:c∈X.fs
   · obtain ⟨sl,q⟩:=slot c o (I.cne x c e) hc nch ho (I.freeC x c e);exact ⟨_,q,hd⟩
   · exact ⟨o,keep c o (I.cne x c e) hc nch ho (I.freeC x c e),hd⟩
 refine ⟨I.ok,I.os,hg,⟨fun b o e n hb hx=> ?_,fun b o e n hb hx=> ?_,fun b o e n hx=> ?_,fun b o e hx=> ?_,fun b xs e=>tups b xs (I.base.tups b xs e),fun b o xs e=>frzs b o xs (I.base.frzs b o xs e),fun b ps e=> ?_⟩,?_,fun x c e=> ?_,?_,fun x c e=> ?_,fun p hp=> ?_,hok,I.len⟩
 · exact keep b o (neL b o e) hb (neC b o e hx) (I.base.keep b o e n hb hx) (I.base.free b o e n hx)
 · obtain ⟨sl,e1⟩:=I.base.slot b o e n hb hx;obtain ⟨sl',e2⟩:=slot b _ (neL b o e) hb (neC b o e hx) e1 (I.base.free b o e n hx);exact ⟨sl',e2⟩
 · obtain ⟨o',e1⟩:=I.base.there b o e hx;exact free b o' (neC b o e hx) e1 (I.base.free b o e n hx)
 · obtain ⟨o',e1⟩:=I.base.there b o e hx;exact there b o' (neC b o e hx) e1
 · obtain ⟨m1,e1⟩:=I.base.tbls b ps e;obtain ⟨m2,e2⟩:=tbls b _ e1;exact ⟨m1++m2,by rw[e2,Array.append_assoc]⟩
 · obtain ⟨m,hn,hl⟩:=I.loc;refine ⟨m,ns m hn,fun i x v e1 e2 e3=> ?_⟩;obtain ⟨u,r,l⟩:=hl i x v e1 e2 e3;refine ⟨u,r,?_⟩
   rcases l with l|⟨k,c,e,z⟩
   · exact .inl l
   · exact .inr ⟨k,c,e,cellK x c e _ z⟩
 · obtain ⟨v,z⟩:=I.cell x c e;exact ⟨v,cellK x c e v z⟩
 · obtain ⟨m,⟨o,_,_,ho,_⟩,_⟩:=I.loc;exact free _ o (fun z=>(hch _ z).2.1 rfl) ho I.free
 · obtain ⟨v,o,ho,hd⟩:=I.cell x c e;exact free c o (fun z=>(hch c z).2.2.1 x c e rfl) ho (I.freeC x c e)
 · obtain ⟨e,n,ne,nf,d⟩:=I.pin p hp
   have nch:p.1∉ch:=fun z=>(hch p.1 z).2.2.2 p hp rfl
   exact ⟨keep p.1 p.2 ne nf nch e n,free p.1 p.2 nch e n,ne,nf,d⟩
theorem i4.un {t':Nat}(I:i4 X pins σ H s)(u:Un X.fs [] H H' s.heap h')(hok:K5 X.prog X.w H' h'):i4 X pins σ H' {s with heap:=h',toks:=t'}:=by
 obtain ⟨m,⟨o,es,ep,ho,r⟩,_⟩:=id I.loc;obtain ⟨sl,hL⟩:=u.any ho I.free (by simp)
 exact I.step (g':=s.gens) (d':=s.drawn) (ch:=[]) (fun _ z=>nomatch z) (fun b o _ hb _ e n=>u.keep b o e n hb (by simp)) (fun b o _ hb _ e n=>u.slot b o e n hb (by simp)) (fun b o _ e n=>u.free b o e n (by simp)) (fun b o _ e=>u.there b o e (by simp)) u.tups u.frzs u.tbls (fun m' hm=>by
   obtain ⟨o',es',ep',ho',r'⟩:=hm;rw[ho] at ho';cases ho'
   exact ⟨_,es',ep',hL,r'⟩) hok I.bare
theorem i4.call {g':Array GenState}{t':Nat}{d':Drawn}{ch:List Addr}(I:i4 X pins σ H s)(u:Un (J8 X.stack) ch H H' s.heap h')(hok:K5 X.prog X.w H' h')(hg:AllBare g')
   (hch:∀b∈ch,(b∈X.ex\/X.s₀.heap.objs.size<=b)/\b≠X.env.locals/\(∀x c,X.env.cells.lookup x=some c->c≠b)/\∀p∈X.pn++pins,p.1≠b):
   i4 X pins σ H' {s with heap:=h',gens:=g',drawn:=d',toks:=t'}:=by
 obtain ⟨m,⟨o,es,ep,ho,r⟩,_⟩:=id I.loc
 obtain ⟨sl,hL⟩:=u.any ho I.free fun z=>(hch _ z).2.1 rfl
 exact I.step (ch:=ch) hch (fun b o hL hb hc e n=>u.keep b o e n (fun z=>(ee0.mp (I.stkSub b z)).elim hL hb) hc) (fun b o _ _ hc e n=>u.any e n hc) (fun b o hc e n=>u.free b o e n hc) (fun b o hc e=>u.there b o e hc) u.tups u.frzs u.tbls (fun m' hm=>by
   obtain ⟨o',es',ep',ho',r'⟩:=hm;rw[ho] at ho';cases ho'
   exact ⟨_,es',ep',hL,r'⟩) hok hg
theorem i4.turned {t':Nat}{it:Addr}(I:i4 X pins σ H s)(k:∀b o,b≠it->s.heap.get? b=some o->h'.get? b=some o)(hn:H it=none)(hL:it≠X.env.locals)
   (h1:it∈X.ex\/X.s₀.heap.objs.size<=it) (h2:∀x c,X.env.cells.lookup x=some c->c≠it) (h3:∀p∈X.pn++pins,p.1≠it):i4 X pins σ H {s with heap:=h',toks:=t'}:=by
 have nit:∀b u,H b=some u->b≠it:=fun b u e z=>by rw[z,hn] at e;cases e
 refine I.step (g':=s.gens) (d':=s.drawn) (ch:=[it]) (fun b hb=> ?_) (fun b o _ _ hc e _=>k b o (fun z=>hc (by simp [z])) e) (fun b o _ _ hc e _=>⟨o.slots,k b o (fun z=>hc (by simp [z])) e⟩) (fun _ _ _ _ n=>n)
   (fun b o hc e=>⟨o,k b o (fun z=>hc (by simp [z])) e⟩) (fun _ _ e=>e) (fun _ _ _ e=>e) (fun b ps e=>⟨#[],by rw[e];simp⟩) (fun m hm=> ?_) (fun b u e=> ?_) I.bare
 · have e:b=it:=by simpa using hb
   subst e;exact ⟨h1,hL,h2,h3⟩
 · obtain ⟨o,es,ep,ho,r⟩:=hm;exact ⟨o,es,ep,k _ o (Ne.symm hL) ho,r⟩
 · refine (I.hok b u e).stay (fun c v hc q=>k c v ?_ q) (fun _ q=>q) fun _ _ q=>q
   rcases hc with z|z
   · rw[z];exact nit b u e
   · exact nit c _ z
theorem i4.tok (I:i4 X pins σ H s)(t:Nat):i4 X pins σ H {s with toks:=t}:=I.un (h':=s.heap) (t':=t) Un.refl I.hok
theorem i4.kept {t':Nat}(I:i4 X pins σ H s)(k:∀b u,s.heap.get? b=some u->h'.get? b=some u):i4 X pins σ H {s with heap:=h',toks:=t'}:=I.un (Un.kept k) (I.hok.kept k)
theorem i4.laid {a:Addr}{o:HO}{t':Nat}(I:i4 X pins σ H s)(k:∀b u,s.heap.get? b=some u->h'.get? b=some u)(hp:s.heap.objs.size<=a)(new:B0 X.prog X.w (c9 H a o) h' a o):
 i4 X pins σ (c9 H a o) {s with heap:=h',toks:=t'}:=I.un (Un.laid k hp (I.hok.fresh hp)) (I.hok.laid k hp new)
theorem i4.write {x e:Addr}{o:HO}{t':Nat}(I:i4 X pins σ H s)(mu:Mut (H x))(he:e=x\/H e=some (.own x))(k:∀b u,b≠e->s.heap.get? b=some u->h'.get? b=some u)(heo:∃u,h'.get? e=some u)
 (new:B0 X.prog X.w (c9 H x o) h' x o):i4 X pins σ (c9 H x o) {s with heap:=h',toks:=t'}:=I.un (Un.write mu he k heo) (I.hok.write mu he k heo new)
theorem i4.pins_of {pins':List (Addr×Obj)}(I:i4 X pins σ H s)(h:∀p∈pins',s.heap.get? p.1=some p.2/\H p.1=none/\p.1≠X.env.locals/\p.1∉X.fs/\∀v,p.2.data≠.cell v):i4 X pins' σ H s:=
 ⟨I.ok,I.os,I.bare,I.base,I.loc,I.cell,I.free,I.freeC,fun p hp=>(ed0.mp hp).elim (fun z=>I.pin p (ef7 _ z)) (h p),I.hok,I.len⟩
theorem bd8 {N:List Str}(hN:N.Nodup){i j:Nat}{x:Str}(a:N[i]? =some x)(b:N[j]? =some x):i=j:=by
 obtain ⟨h1,e1⟩:=eb9.mp a;obtain ⟨h2,e2⟩:=eb9.mp b;exact (List.getElem_inj hN).mp (e1.trans e2.symm)
theorem bo6 {M:Model}{A:Around}{E:Value->Shared->Prop}{i:Nat}{x:Str}{v:V}{u:Value}{Q:Unit->Shared->Prop}(I:i4 X pins σ H s)(hN:X.N.Nodup)(hi:X.N[i]? =some x)(hx:Loc X.env.scope x)(r:o7 v u)
   (h:∀s',i4 X pins (σ.set i (some v)) H s'->(∃a,Heap.SameBut a s.heap s'.heap/\(a=X.env.locals\/X.env.cells.lookup x=some a))->Q () s') (hf:X.fn x=true\/X.env.scope.names.lookup x=some .local:=by first|exact .inl rfl|exact .inr rfl|assumption):wpAny M A (storeName X.env x u) Q E s:=by
 obtain ⟨m,hn,hl⟩:=id I.loc
 have hcls:(X.env.scope.kind== .class||(X.env.scope.kind== .module&&X.env.locals !=X.env.globals))=false:=by rw[I.ok.kind];rfl
 have hiσ:i < σ.length:=by rw[I.len];exact (eb9.mp hi).1
 have cne:=I.cne
 have tracked:∀{a:Addr} {h':Heap},(∃o,s.heap.get? a=some o/\H a=none)->Heap.SameBut a s.heap h'->K5 X.prog X.w H h':=fun {a h'} ha hs b ob e=>by
   obtain ⟨_,_,hfree⟩:=ha
   refine (I.hok b ob e).stay (fun c w' hc q=>(hs.2 c ?_).trans q) (fun _ q=>q) fun _ _ q=>q
   rintro rfl
   rcases hc with rfl|hc
   · rw[hfree] at e;cases e
   · rw[hfree] at hc;cases hc
 rcases hx with hk|hk
 · refine wpAny_storeName_local hk hn (fun h' hn' hs=> ?_) hcls;obtain ⟨oL,_,_,hoL,_⟩:=id hn;refine h _ ⟨I.ok,I.os,I.bare,⟨fun b o e n hb hx=> ?_,fun b o e n hb hx=> ?_,I.base.free,fun b o e hx=> ?_,I.base.tups,I.base.frzs,I.base.tbls⟩,⟨_,hn',fun j y v' e1 e2 e3=> ?_⟩,fun y c e=> ?_,I.free,I.freeC,fun p hp=> ?_,tracked ⟨oL,hoL,I.free⟩ hs,by simpa using I.len⟩ ⟨_,hs,.inl rfl⟩
   · exact (hs.2 b (eh2 (ef5 (Heap.lt_size e) I.ok.above))).trans (I.base.keep b o e n hb hx)
   · obtain ⟨sl,e1⟩:=I.base.slot b o e n hb hx;exact ⟨sl,(hs.2 b (eh2 (ef5 (Heap.lt_size e) I.ok.above))).trans e1⟩
   · obtain ⟨o',e1⟩:=I.base.there b o e hx;exact ⟨o',(hs.2 b (eh2 (ef5 (Heap.lt_size e) I.ok.above))).trans e1⟩
   · by_cases hj:j=i
     · subst hj;rw[hi] at e1;cases e1;rw[ep7 hiσ] at e2;cases e2;exact ⟨u,r,.inl ⟨hk,by simp⟩⟩
     · rw[er0 (Ne.symm hj)] at e2;obtain ⟨u',r',q⟩:=hl j y v' e1 e2 e3;refine ⟨u',r',?_⟩
       rcases q with ⟨k,e⟩|⟨k,c,e,z⟩
       · refine .inl ⟨k,?_⟩
         have:y≠x:=fun e=>hj (bd8 hN e1 (e▸hi))
         simp [this,e]
       · exact .inr ⟨k,c,e,z.sameBut hs (cne y c e)⟩
   · obtain ⟨w',z⟩:=I.cell y c e;exact ⟨w',z.sameBut hs (cne y c e)⟩
   · obtain ⟨e,n,ne,nf,d⟩:=I.pin p hp;exact ⟨(hs.2 p.1 ne).trans e,n,ne,nf,d⟩
 · have hfn:X.fn x=true:=by
     rcases hf with z|z
     · exact z
     · rw[z] at hk;cases hk
   obtain ⟨c,hc⟩:=I.ok.has x (.inl hk);obtain ⟨w',z⟩:=I.cell x c hc;refine wpAny_storeName_cell I.ok.kind hk hc z (fun h' hc' hs=> ?_);obtain ⟨oc,hoc,hocd⟩:=id z;refine h {s with heap:=h'} ⟨I.ok,I.os,I.bare,⟨fun b o e n hb hx=> ?_,fun b o e n hb hx=> ?_,I.base.free,fun b o e hx=> ?_,I.base.tups,I.base.frzs,I.base.tbls⟩,⟨m,hn.sameBut hs (Ne.symm (cne x c hc)),fun j y v' e1 e2 e3=> ?_⟩,fun y c' e=> ?_,I.free,I.freeC,fun p hp=> ?_,tracked ⟨oc,hoc,I.freeC x c hc⟩ hs,by simpa using I.len⟩ ⟨c,hs,.inr hc⟩
   · exact (hs.2 b (eh2 (ef5 (Heap.lt_size e) (I.ok.cab x c hfn hc)))).trans (I.base.keep b o e n hb hx)
   · obtain ⟨sl,e1⟩:=I.base.slot b o e n hb hx;exact ⟨sl,(hs.2 b (eh2 (ef5 (Heap.lt_size e) (I.ok.cab x c hfn hc)))).trans e1⟩
   · obtain ⟨o',e1⟩:=I.base.there b o e hx;exact ⟨o',(hs.2 b (eh2 (ef5 (Heap.lt_size e) (I.ok.cab x c hfn hc)))).trans e1⟩
   · by_cases hj:j=i
     · subst hj;rw[hi] at e1;cases e1;rw[ep7 hiσ] at e2;cases e2;exact ⟨u,r,.inr ⟨.inl hk,c,hc,hc'⟩⟩
     · rw[er0 (Ne.symm hj)] at e2;obtain ⟨u',r',q⟩:=hl j y v' e1 e2 e3;refine ⟨u',r',?_⟩
       rcases q with q|⟨k,c',e,z'⟩
       · exact .inl q
       · refine .inr ⟨k,c',e,z'.sameBut hs ?_⟩;rintro rfl;exact hj (bd8 hN e1 (I.ok.inj _ _ _ e hc▸hi))
   · by_cases hcc:c'=c
     · subst hcc;exact ⟨_,hc'⟩
     · obtain ⟨w2,z2⟩:=I.cell y c' e;exact ⟨w2,z2.sameBut hs hcc⟩
   · obtain ⟨e,n,ne,nf,d⟩:=I.pin p hp;refine ⟨(hs.2 p.1 ?_).trans e,n,ne,nf,d⟩;intro q;rw[q,hoc] at e;have q':oc=p.2:=Option.some.inj e;exact d w' (by rw[<-q'];exact hocd)
theorem ac4 {M:Model}{A:Around}{E:Value->Shared->Prop}{i:Nat}{x:Str}{v:V}{u:Value}{Q:Unit->Shared->Prop}(I:i4 X pins σ H s)(hN:X.N.Nodup)(hi:X.N[i]? =some x)(hx:Loc X.env.scope x)(r:o7 v u)
   (h:∀s',i4 X pins (σ.set i (some v)) H s'->Q () s') (hf:X.fn x=true\/X.env.scope.names.lookup x=some .local:=by first|exact .inl rfl|exact .inr rfl|assumption):wpAny M A (storeName X.env x u) Q E s:=
 bo6 I hN hi hx r (fun s' I' _=>h s' I') hf
theorem i4.call' {s':Shared}{ch:List Addr}(I:i4 X pins σ H s)(ho:s'.os=s.os)(u:Un (J8 X.stack) ch H H' s.heap s'.heap)(hok:K5 X.prog X.w H' s'.heap)(hg:AllBare s'.gens)
   (hch:∀b∈ch,(b∈X.ex\/X.s₀.heap.objs.size<=b)/\b≠X.env.locals/\(∀x c,X.env.cells.lookup x=some c->c≠b)/\∀p∈X.pn++pins,p.1≠b):i4 X pins σ H' s':=by
 obtain ⟨h',g',d',t',o'⟩:=s';have e:o'=s.os:=ho;subst e;exact I.call (g':=g') (t':=t') (d':=d') u hok hg hch
end
abbrev XK:=Value->Option Addr->Hp->Prop
abbrev St:=List (Option V)
abbrev VK:=V->Hp->Prop
abbrev TE:=St->Hp->VK->Prop
abbrev TT:=St->Hp->(Bool->Hp->Prop)->Prop
abbrev TA:=St->Hp->(List V->Hp->Prop)->Prop
structure S6 where
 nx:St->Hp->Prop
 rt:VK
 bk:St->Hp->Prop:=fun _ _=>False
 ct:St->Hp->Prop:=fun _ _=>False
abbrev TS:=S6->St->Hp->Prop
def EP (X:Cx)(pins:List (Addr×Obj))(σ:St)(Q:VK)(u:Value)(s':Shared):Prop:=∃v H',i4 X pins σ H' s'/\o7 v u/\Q v H'
def TP (X:Cx)(pins:List (Addr×Obj))(σ:St)(Q:Bool->Hp->Prop)(b:Bool)(s':Shared):Prop:=∃H',i4 X pins σ H' s'/\Q b H'
def AP (X:Cx)(pins:List (Addr×Obj))(σ:St)(Q:List V->Hp->Prop)(us:List Value)(s':Shared):Prop:=∃vs H',i4 X pins σ H' s'/\l8 vs us/\Q vs H'
def SP (X:Cx)(pins:List (Addr×Obj))(D:S6)(f:Flow)(s':Shared):Prop:=
 match f with
 | .next=>∃σ' H',i4 X pins σ' H' s'/\D.nx σ' H'
 | .brk=>∃σ' H',i4 X pins σ' H' s'/\D.bk σ' H'
 | .cont=>∃σ' H',i4 X pins σ' H' s'/\D.ct σ' H'
 | .ret u=>∃v σ' H',i4 X pins σ' H' s'/\o7 v u/\D.rt v H'
def PE (X:Cx)(e:Expr)(t:TE):Prop:=
 ∀(pins:List (Addr×Obj)) (s:Shared) (σ:St) (H:Hp) (Q:VK),i4 X pins σ H s->t σ H Q->wpAny (model X.prog X.w) X.A (eval e X.env) (EP X pins σ Q) X.xe s
def PT (X:Cx)(e:Expr)(t:TT):Prop:=
 ∀(pins:List (Addr×Obj)) (s:Shared) (σ:St) (H:Hp) (Q:Bool->Hp->Prop),i4 X pins σ H s->t σ H Q->wpAny (model X.prog X.w) X.A (isTrue e X.env (eval e X.env)) (TP X pins σ Q) X.xe s
def PW (X:Cx)(e:Expr)(t:TT):Prop:=
 ∀(whole:Sem Value) (pins:List (Addr×Obj)) (s:Shared) (σ:St) (H:Hp) (Q:Bool->Hp->Prop),i4 X pins σ H s->t σ H Q->wpAny (model X.prog X.w) X.A (isTrue e X.env whole) (TP X pins σ Q) X.xe s
theorem PW.pt {X:Cx}{e:Expr}{t:TT}(h:PW X e t):PT X e t:=h _
def PA (X:Cx)(es:List Expr)(t:TA):Prop:=
 ∀(pos:Pos) (pins:List (Addr×Obj)) (s:Shared) (σ:St) (H:Hp) (Q:List V->Hp->Prop),i4 X pins σ H s->t σ H Q->wpAny (model X.prog X.w) X.A (spliced (backTo pos (starEach es X.env))) (AP X pins σ Q) X.xe s
def PS (X:Cx)(st:Stmt)(t:TS):Prop:=
 ∀(pins:List (Addr×Obj)) (s:Shared) (σ:St) (H:Hp) (D:S6),i4 X pins σ H s->t D σ H->wpAny (model X.prog X.w) X.A (exec st X.env) (SP X pins D) X.xe s
def PSs (X:Cx)(st:List Stmt)(t:TS):Prop:=
 ∀(pins:List (Addr×Obj)) (s:Shared) (σ:St) (H:Hp) (D:S6),i4 X pins σ H s->t D σ H->wpAny (model X.prog X.w) X.A (execs st X.env) (SP X pins D) X.xe s
theorem t7 {α:Type}{t:Sem α}{Q Q':α->Shared->Prop}{M:Model}{A:Around}{E:Value->Shared->Prop}{s:Shared}(h:wpAny M A t Q E s)(hQ:∀a s,Q a s->Q' a s):wpAny M A t Q' E s:=wpAny_mono h hQ fun _ _ x=>x
end L2
namespace L2
open PySem PySem.Spec PyProof.Rows
section
variable {X:Cx}
theorem bin {a b:Expr}{ta tb:TE}(ha:PE X a ta)(hb:PE X b tb){pins:List (Addr×Obj)}{s:Shared}{σ:St}{H:Hp}{R:V->V->Hp->Prop}(I:i4 X pins σ H s)(h:ta σ H fun x H1=>tb σ H1 fun y H2=>R x y H2)
   {α:Type} {Q:α->Shared->Prop} {f:Value->Value->Sem α}
   (hf:∀v u s2 x y H2,i4 X pins σ H2 s2->o7 x v->o7 y u->R x y H2->wpAny (model X.prog X.w) X.A (f v u) Q X.xe s2):
   wpAny (model X.prog X.w) X.A (eval a X.env) (fun v s₁=>wpAny (model X.prog X.w) X.A (eval b X.env) (fun u s₂=>wpAny (model X.prog X.w) X.A (f v u) Q X.xe s₂) X.xe s₁) X.xe s:=by
 refine t7 (ha pins s σ H _ I h) fun v s1 ⟨x,H1,I1,r1,q1⟩=> ?_
 refine t7 (hb pins s1 σ H1 _ I1 q1) fun u s2 ⟨y,H2,I2,r2,q2⟩=> ?_
 exact hf v u s2 x y H2 I2 r1 r2 q2
def dk3 (i:Nat):TE:=fun σ H Q=>∃v,σ[i]? =some (some v)/\Q v H
def tC (v:V):TE:=fun _ H Q=>Q v H
theorem dk4 {i:Nat}{x:Str}{pos:Pos}(hN:X.N[i]? =some x)(hv:Vis X.env.scope x)(hd:(x==("__debug__":Str))=false:=by decide)(hcd:(x==("__classdict__":Str))=false:=by decide):PE X (.Name x pos) (dk3 i):=by
 intro pins s σ H Q I h;obtain ⟨v,e,h⟩:=h;obtain ⟨m,hn,hl⟩:=I.loc;obtain ⟨u,r,l⟩:=hl i x v hN e hv;have fin:EP X pins σ Q u s:=⟨v,H,I,r,h⟩
 rcases l with ⟨hk,hm⟩|⟨hk,c,hc,hcell⟩
 · exact wpAny_Name (wpAny_loadName_local I.ok.kind hk hn hm fin) hd
 · rcases hk with hk|hk
   · exact wpAny_Name (wpAny_loadName_cell I.ok.kind hk hc hcell fin) hd
   · exact wpAny_Name (wpAny_loadName_free I.ok.kind hk hc hcell fin hcd) hd
theorem g8 {i j pos}:PE X (.Constant (.int i) j pos) (tC (.int i)):=fun _ _ _ H _ I h=>wpAny_Constant_int ⟨.int i,H,I.tok _,⟨_,rfl⟩,h⟩
theorem M9 {b j pos}:PE X (.Constant (.bool b) j pos) (tC (.bl b)):=fun _ _ _ H _ I h=>Constant_bool ⟨.bl b,H,I,rfl,h⟩
theorem bu3 {j pos}:PE X (.Constant .none j pos) (tC .non):=fun _ _ _ H _ I h=>Constant_none ⟨.non,H,I,rfl,h⟩
theorem aw3 {x j pos}:PE X (.Constant (.str x) j pos) (tC (.str x)):=fun _ _ _ H _ I h=>Calls.Constant_str ⟨.str x,H,I.tok _,⟨_,rfl⟩,h⟩
def Gl (X:Cx)(x:Str):Prop:=X.env.kindOf x=some .globalImplicit
theorem an5 {E:Value->Shared->Prop}{pins:List (Addr×Obj)}{s:Shared}{σ:St}{H:Hp}{x:Str}{u:Value}{pos:Pos}{Q:Value->Shared->Prop}(I:i4 X pins σ H s)(hg:Gl X x)(hm:X.mg x=some u)(h:Q u s)
   (hd:(x==("__debug__":Str))=false:=by decide):wpAny (model X.prog X.w) X.A (eval (.Name x pos) X.env) Q E s:=
 Calls.Name_function_global I.ok.kind hg (Calls.loadGlobal_global (by rw[I.ok.glob];exact I.mod.glob.keeps I.bk) hm h) hd
theorem an6 {E:Value->Shared->Prop}{pins:List (Addr×Obj)}{s:Shared}{σ:St}{H:Hp}{x:Str}{u:Value}{pos:Pos}{Q:Value->Shared->Prop}(I:i4 X pins σ H s)(hg:Gl X x)(hm:X.mg x=none)(hv:bootBuiltins x=some u)(h:Q u s)
   (hn:x≠"__name__":=by decide) (hd:(x==("__debug__":Str))=false:=by decide):wpAny (model X.prog X.w) X.A (eval (.Name x pos) X.env) Q E s:=by
 obtain ⟨mb,h1,h2⟩:=I.mod.blt;exact Calls.Name_function_global I.ok.kind hg (Calls.loadGlobal_builtin (by rw[I.ok.glob];exact I.mod.glob.keeps I.bk) hm (by rw[I.ok.blt];exact h1.keeps I.bk) ((h2 x hn).trans hv) h) hd
theorem O4 {x:Str}{v:V}{u:Value}{pos:Pos}(hg:Gl X x)(hm:X.mg x=some u)(r:o7 v u)(hd:(x==("__debug__":Str))=false:=by decide):PE X (.Name x pos) (tC v):=
 fun _ _ _ H _ I h=>an5 I hg hm ⟨v,H,I,r,h⟩ hd
theorem ba3 {x:Str}{v:V}{u:Value}{pos:Pos}(hg:Gl X x)(hm:X.mg x=none)(hv:bootBuiltins x=some u)(r:o7 v u)(hn:x≠"__name__":=by decide)(hd:(x==("__debug__":Str))=false:=by decide):PE X (.Name x pos) (tC v):=
 fun _ _ _ H _ I h=>an6 I hg hm hv ⟨v,H,I,r,h⟩ hn hd
variable {a b:Expr} {ta tb:TE} {pos:Pos}
def PC (X:Cx)(op:CmpOp)(a b:Expr)(t:TE):Prop:=
 ∀(pins:List (Addr×Obj)) (s:Shared) (σ:St) (H:Hp) (Q:VK),i4 X pins σ H s->t σ H Q->
  wpAny (model X.prog X.w) X.A (eval a X.env) (fun v s₁=>wpAny (model X.prog X.w) X.A (eval b X.env) (fun u s₂=>wpAny (model X.prog X.w) X.A (compareOp op v u) (EP X pins σ Q) X.xe s₂) X.xe s₁) X.xe s
def tB (t:TE):TT:=fun σ H Q=>t σ H fun x H1=>∃c,x= .bl c/\Q c H1
theorem bh0 {op:CmpOp}{t:TE}(h:PC X op a b t)(h1:behindInMarks op b=false:=by first|exact nobehind _ (by decide) (by decide)|rfl):PT X (.Compare a [op] [b] pos) (tB t):=by
 intro pins s σ H Q I hw;refine wpAny_isTrue_Compare1 (t7 (h pins s σ H _ I hw) fun v s1 h1=>t7 h1 fun u s2 h2=>t7 h2 fun c s3 ⟨x,H1,I1,r1,q1⟩=> ?_) h1;obtain ⟨d,rfl,q⟩:=q1;cases r1;exact wpAny_truthy_bool ⟨H1,I1,q⟩
theorem O6 {e:Expr}{t:TE}(h:PE X e t)(he:∀whole,isTrue e X.env whole=(do let v <-whole;standAt e.pos;holding [v] (truthy v)):=by intro _;rfl):PT X e (tB t):=by
 intro pins s σ H Q I hw;refine isTrue_plain (t7 (h pins s σ H _ I hw) fun v s1 ⟨x,H1,I1,r1,q1⟩=> ?_) (he _);obtain ⟨d,rfl,q⟩:=q1;cases r1;exact wpAny_truthy_bool ⟨H1,I1,q⟩
variable {tA tB':TT} {rest:List Expr}
def dw9 (t u:TT):TT:=fun σ H Q=>t σ H fun c H1=>if c=true then u σ H1 Q else Q false H1
def tOr (t u:TT):TT:=fun σ H Q=>t σ H fun c H1=>if c=true then Q true H1 else u σ H1 Q
def dx0 (t:TT):TT:=fun σ H Q=>t σ H fun c H1=>Q (!c) H1
theorem dd5 (ha:PT X a tA):PW X (.BoolOp .And [a] pos) tA:=by
 intro wh pins s σ H Q I h;refine isTrue_and (t7 (ha pins s σ H Q I h) fun c s1 e=> ?_)
 cases c with
 |true=>exact isTrue_and_nil e
 |false=>exact e
theorem aa7 (ha:PT X a tA):PW X (.BoolOp .Or [a] pos) tA:=by
 intro wh pins s σ H Q I h;refine isTrue_or (t7 (ha pins s σ H Q I h) fun c s1 e=> ?_)
 cases c with
 |false=>exact isTrue_or_nil e
 |true=>exact e
theorem cm7 (ha:PT X a tA)(hb:PW X (.BoolOp .And (b::rest) pos) tB'):PW X (.BoolOp .And (a::b::rest) pos) (dw9 tA tB'):=by
 intro wh pins s σ H Q I h;refine isTrue_and (t7 (ha pins s σ H _ I h) fun c s1 ⟨H1,I1,q1⟩=> ?_)
 cases c with
 |true=>exact hb wh pins s1 σ H1 Q I1 q1
 |false=>exact ⟨H1,I1,q1⟩
theorem aa8 (ha:PT X a tA)(hb:PW X (.BoolOp .Or (b::rest) pos) tB'):PW X (.BoolOp .Or (a::b::rest) pos) (tOr tA tB'):=by
 intro wh pins s σ H Q I h;refine isTrue_or (t7 (ha pins s σ H _ I h) fun c s1 ⟨H1,I1,q1⟩=> ?_)
 cases c with
 |true=>exact ⟨H1,I1,q1⟩
 |false=>exact hb wh pins s1 σ H1 Q I1 q1
theorem N8 (ha:PT X a tA):PT X (.UnaryOp .Not a pos) (dx0 tA):=by
 intro pins s σ H Q I h;exact isTrue_not (ha pins s σ H (fun c H1=>Q (!c) H1) I h)
def dr2 (ta tb:TE):TE:=fun σ H Q=>ta σ H fun x H1=>∃c,x= .bl c/\if c=true then tb σ H1 Q else Q (.bl false) H1
def dx1 (ta tb:TE):TE:=fun σ H Q=>ta σ H fun x H1=>∃c,x= .bl c/\if c=true then Q (.bl true) H1 else tb σ H1 Q
def dr3 (ta:TE):TE:=fun σ H Q=>ta σ H fun x H1=>∃c,x= .bl c/\Q (.bl (!c)) H1
theorem cm8 {op}{t:TE}(h:PE X a t):PE X (.BoolOp op [a] pos) t:=fun pins s σ H Q I hw=>BoolOp_one (h pins s σ H Q I hw)
theorem dk5 (ha:PE X a ta)(hb:PE X (.BoolOp .And (b::rest) pos) tb):PE X (.BoolOp .And (a::b::rest) pos) (dr2 ta tb):=by
 intro pins s σ H Q I h;refine BoolOp_and (t7 (ha pins s σ H _ I h) fun v s1 ⟨x,H1,I1,r1,q1⟩=> ?_);obtain ⟨c,rfl,q1⟩:=q1;cases r1;refine wpAny_truthy_bool ?_
 cases c with
 |true=>exact hb pins s1 σ H1 Q I1 q1
 |false=>exact ⟨.bl false,H1,I1,rfl,q1⟩
theorem dr4 (ha:PE X a ta)(hb:PE X (.BoolOp .Or (b::rest) pos) tb):PE X (.BoolOp .Or (a::b::rest) pos) (dx1 ta tb):=by
 intro pins s σ H Q I h;refine BoolOp_or (t7 (ha pins s σ H _ I h) fun v s1 ⟨x,H1,I1,r1,q1⟩=> ?_);obtain ⟨c,rfl,q1⟩:=q1;cases r1;refine wpAny_truthy_bool ?_
 cases c with
 |false=>exact hb pins s1 σ H1 Q I1 q1
 |true=>exact ⟨.bl true,H1,I1,rfl,q1⟩
theorem dk6 (ha:PE X a ta):PE X (.UnaryOp .Not a pos) (dr3 ta):=by
 intro pins s σ H Q I h;refine UnaryOp_ (t7 (ha pins s σ H _ I h) fun v s1 ⟨x,H1,I1,r1,q1⟩=> ?_);obtain ⟨c,rfl,q1⟩:=q1;cases r1;exact not_of (wpAny_truthy_bool ⟨.bl (!c),H1,I1,rfl,q1⟩)
end
end L2
namespace L2
open PySem PySem.Spec PyProof.Rows
def g9 (K:PySem.W.Frag)(H:Hp)(a:Addr)(xs:List V):Prop:=
 Rd H a (.lst xs)\/
   ∃(o:Obj) (its:Array Value) (n:Nat),K.lookup a=some o/\o.cls= .type "list"/\o.dict=none/\o.data= .seq its n/\its.size<=sizeLine/\l8 xs its.toList
def Q0 (K:PySem.W.Frag)(H:Hp)(a:Addr)(xs:List V):Prop:=
 Rd H a (.tup xs)\/
   ∃(o:Obj) (its:Array Value) (n:Nat),K.lookup a=some o/\o.cls= .type "tuple"/\o.data= .seq its n/\its.size<=sizeLine/\l8 xs its.toList
def dx2:Value->Option V
 | .none=>some .non
 | .bool b=>some (.bl b)
 | .int i _=>some (.int i)
 | .str x _=>some (.str x)
 | .bytes b _=>some (.byt b)
 | .float b _=>some (.flt b)
 | .ref a=>some (.ref a)
 | .type n=>some (.ty n)
 |_=>none
theorem o7.abs {x:V}{u:Value}(r:o7 x u):dx2 u=some x:=by
 cases x with
 |non=>cases r;rfl
 |bl _=>cases r;rfl
 |int _=>obtain ⟨t,rfl⟩:=r;rfl
 |str _=>obtain ⟨t,rfl⟩:=r;rfl
 |byt _=>obtain ⟨t,rfl⟩:=r;rfl
 |flt _=>obtain ⟨t,rfl⟩:=r;rfl
 |ref _=>cases r;rfl
 |ty _=>cases r;rfl
theorem o7.inj {x y:V}{u:Value}(r:o7 x u)(q:o7 y u):x=y:=Option.some.inj (r.abs.symm.trans q.abs)
theorem l8.inj:∀{xs ys:List V} {us:List Value},l8 xs us->l8 ys us->xs=ys
 |_,_,_,.nil,.nil=>rfl
 |_,_,_,.cons r t,.cons r' t'=>by rw[r.inj r',l8.inj t t']
section
variable {X:Cx} {pins:List (Addr×Obj)} {σ:St} {H:Hp} {s:Shared} {a:Addr} {xs ys:List V}
theorem g9.of {K:PySem.W.Frag}(h:H a=some (.lst xs)):g9 K H a xs:= .inl (.inl h)
theorem Q0.of {K:PySem.W.Frag}(h:H a=some (.tup xs)):Q0 K H a xs:= .inl (.inl h)
theorem i4.list (I:i4 X pins σ H s)(h:g9 X.K H a xs):∃its:List Value,l8 xs its/\PlainL s.heap a its.toArray/\xs.length<=sizeLine:=by
 rcases h with h|⟨o,its,n,hk,hc,hd,hs,hz,r⟩
 · obtain ⟨z,its,n,r,e⟩:=h.ok I.hok;exact ⟨its,r,⟨_,n,e,rfl,rfl,rfl⟩,z⟩
 · refine ⟨its.toList,r,⟨o,n,I.kIn a o hk,hc,hd,by simpa using hs⟩,?_⟩;have e:=r.length;simp only[ef0] at e;omega
theorem i4.tuple (I:i4 X pins σ H s)(h:Q0 X.K H a xs):∃its:List Value,l8 xs its/\IsTup s.heap a its.toArray/\xs.length<=sizeLine:=by
 rcases h with h|⟨o,its,n,hk,hc,hs,hz,r⟩
 · obtain ⟨z,its,r,p⟩:=h.ok I.hok;exact ⟨its,r,p,z⟩
 · refine ⟨its.toList,r,⟨o,I.kIn a o hk,hc,n,by simpa using hs⟩,?_⟩;have e:=r.length;simp only[ef0] at e;omega
theorem i4.list_inj (I:i4 X pins σ H s)(h:g9 X.K H a xs)(h':g9 X.K H a ys):xs=ys:=by
 obtain ⟨its,r,⟨o,n,e,_,_,d⟩,_⟩:=I.list h;obtain ⟨its',r',⟨o',n',e',_,_,d'⟩,_⟩:=I.list h';rw[e] at e';cases e';rw[d] at d'
 injection d' with d1 _
 have:its=its':=by simpa using congrArg ei9 d1
 subst this;exact r.inj r'
theorem i4.tuple_inj (I:i4 X pins σ H s)(h:Q0 X.K H a xs)(h':Q0 X.K H a ys):xs=ys:=by
 obtain ⟨its,r,⟨o,e,_,n,d⟩,_⟩:=I.tuple h;obtain ⟨its',r',⟨o',e',_,n',d'⟩,_⟩:=I.tuple h';rw[e] at e';cases e';rw[d] at d'
 injection d' with d1 _
 have:its=its':=by simpa using congrArg ei9 d1
 subst this;exact r.inj r'
end
abbrev Cx.wish (X:Cx)(E:Value->Shared->Prop):Cx:={X with xe:=E}
abbrev Cx.nox (X:Cx):Cx:=X.wish fun _ _=>False
theorem Cx.Ok.wish {X:Cx}(ok:X.Ok)(E:Value->Shared->Prop):(X.wish E).Ok:=
 ⟨ok.mod,ok.kind,ok.glob,ok.blt,ok.above,ok.inj,ok.has,ok.cab,ok.hd,ok.frames,ok.stk,ok.exf,ok.bs,ok.bsz,ok.noex,ok.exfs,ok.funs,ok.frf⟩
theorem Cx.Ok.unwish {X:Cx}{E:Value->Shared->Prop}(ok:(X.wish E).Ok):X.Ok:=
 ⟨ok.mod,ok.kind,ok.glob,ok.blt,ok.above,ok.inj,ok.has,ok.cab,ok.hd,ok.frames,ok.stk,ok.exf,ok.bs,ok.bsz,ok.noex,ok.exfs,ok.funs,ok.frf⟩
section
variable {X:Cx} {pins:List (Addr×Obj)} {σ:St} {H:Hp} {s:Shared} {E:Value->Shared->Prop}
theorem i4.wish (I:i4 X pins σ H s)(E:Value->Shared->Prop):i4 (X.wish E) pins σ H s:=⟨I.ok.wish E,I.os,I.bare,I.base,I.loc,I.cell,I.free,I.freeC,I.pin,I.hok,I.len⟩
theorem i4.unwish (I:i4 (X.wish E) pins σ H s):i4 X pins σ H s:=⟨I.ok.unwish,I.os,I.bare,I.base,I.loc,I.cell,I.free,I.freeC,I.pin,I.hok,I.len⟩
theorem SP.unwish {D:S6}{f:Flow}{s':Shared}(h:SP (X.wish E) pins D f s'):SP X pins D f s':=by
 cases f with
 |next=>obtain ⟨σ',H',I,q⟩:=h;exact ⟨σ',H',I.unwish,q⟩
 |brk=>obtain ⟨σ',H',I,q⟩:=h;exact ⟨σ',H',I.unwish,q⟩
 |cont=>obtain ⟨σ',H',I,q⟩:=h;exact ⟨σ',H',I.unwish,q⟩
 |ret u=>obtain ⟨v,σ',H',I,r,q⟩:=h;exact ⟨v,σ',H',I.unwish,r,q⟩
theorem PSs.nox {st:List Stmt}{t:TS}(h:PSs X.nox st t):PSs X st t:=fun pins s σ H D I hw=>
 wpAny_mono (h pins s σ H D (I.wish _) hw) (fun _ _ q=>q.unwish) fun _ _ z=>False.elim z
end
section
variable {X:Cx} {st:Stmt} {rest:List Stmt} {t u:TS} {e:Expr} {te:TE} {pos:Pos}
def dr5:TS:=fun D σ H=>D.nx σ H
def n5 (t u:TS):TS:=fun D σ H=>t {D with nx:=u D} σ H
theorem r6:PSs X [] dr5:=fun _ _ σ H _ I h=>wpAny_execs_nil ⟨σ,H,I,h⟩
theorem c7 (h1:PS X st t)(h2:PSs X rest u):PSs X (st::rest) (n5 t u):=by
 intro pins s σ H D I h;refine wpAny_execs_cons (t7 (h1 pins s σ H {D with nx:=u D} I h) fun f s1 q=> ?_)
 cases f with
 |next=>
  obtain ⟨σ',H',I',q⟩:=q;exact h2 pins s1 σ' H' D I' q
 |ret v=>exact q
 |brk=>exact q
 |cont=>exact q
theorem e8 (h1:PS X st t):PSs X [st] t:=by
 intro pins s σ H D I h;refine wpAny_execs_cons (t7 (h1 pins s σ H D I h) fun f s1 q=> ?_)
 cases f with
 |next=>exact wpAny_execs_nil q
 |ret v=>exact q
 |brk=>exact q
 |cont=>exact q
theorem i4.quiet {pins:List (Addr×Obj)}{σ:St}{H:Hp}{s:Shared}(I:i4 X pins σ H s):interactive X.env=false:=by simp [interactive,I.ok.kind]
def dr6 (te:TE):TS:=fun D σ H=>te σ H fun _ H1=>D.nx σ H1
theorem C3 (he:PE X e te)(hs:swapsWith e none pos.line X.env=pure false:=by rfl):PS X (.Expr e pos) (dr6 te):=by
 intro pins s σ H D I h;exact wpAny_Expr_any (t7 (he pins s σ H _ I h) fun v s1 ⟨x,H1,I1,r1,q1⟩=>⟨σ,H1,I1,q1⟩) I.quiet hs
def dx3 (te:TE):TS:=fun D σ H=>te σ H D.rt
theorem j9 (he:PE X e te):PS X (.Return (some e) pos) (dx3 te):=by
 intro pins s σ H D I h;exact wpAny_Return_some (t7 (he pins s σ H _ I h) fun v s1 ⟨x,H1,I1,r1,q1⟩=>⟨x,σ,H1,I1,r1,q1⟩)
def dx4 (c:TT)(t u:TS):TS:=fun D σ H=>c σ H fun b H1=>if b=true then t D σ H1 else u D σ H1
theorem B5 {c:Expr}{a b:List Stmt}{tc:TT}(hc:PT X c tc)(ha:PSs X a t)(hb:PSs X b u):PS X (.If c a b pos) (dx4 tc t u):=by
 intro pins s σ H D I h;refine wpAny_If (t7 (hc pins s σ H _ I h) fun d s1 ⟨H1,I1,q1⟩=> ?_)
 cases d with
 |true=>exact ha pins s1 σ H1 D I1 q1
 |false=>exact hb pins s1 σ H1 D I1 q1
def cm9:TS:=fun _ _ _=>False
theorem bd9:PS X st cm9:=fun _ _ _ _ _ _ h=>h.elim
theorem cn0 {sts:List Stmt}:PSs X sts cm9:=fun _ _ _ _ _ _ h=>h.elim
end
abbrev TG:=V->St->Hp->(St->Hp->Prop)->Prop
abbrev TGs:=List V->St->Hp->(St->Hp->Prop)->Prop
def PG (X:Cx)(target:Expr)(t:TG):Prop:=
 ∀(pins:List (Addr×Obj)) (s:Shared) (σ:St) (H:Hp) (v:V) (u:Value) (Q:St->Hp->Prop),i4 X pins σ H s->o7 v u->t v σ H Q->
  wpAny (model X.prog X.w) X.A (assign target X.env u) (fun _ s'=>∃σ' H',i4 X pins σ' H' s'/\Q σ' H') X.xe s
def PGs (X:Cx)(ts:List Expr)(t:TGs):Prop:=
 ∀(pins:List (Addr×Obj)) (s:Shared) (σ:St) (H:Hp) (vs:List V) (us:List Value) (Q:St->Hp->Prop),i4 X pins σ H s->l8 vs us->t vs σ H Q->
  wpAny (model X.prog X.w) X.A (assignInOrder ((assignEach ts X.env).map (·.2)) us) (fun _ s'=>∃σ' H',i4 X pins σ' H' s'/\Q σ' H') X.xe s
abbrev cw5:=V->V->V->Hp->(Hp->Prop)->Prop
def dk7 (X:Cx)(t:cw5):Prop:=
 ∀(pins:List (Addr×Obj)) (s:Shared) (σ:St) (H:Hp) (o i v:V) (ov iv u:Value) (Q:Hp->Prop),i4 X pins σ H s->o7 o ov->o7 i iv->o7 v u->t o i v H Q->
  wpAny (model X.prog X.w) X.A (setItem ov iv u) (fun _ s'=>∃H',i4 X pins σ H' s'/\Q H') X.xe s
section
variable {X:Cx} {pos:Pos}
def bt4 (i:Nat):TG:=fun v σ H Q=>Q (σ.set i (some v)) H
theorem i8 {i:Nat}{x:Str}(hN:X.N.Nodup)(hi:X.N[i]? =some x)(hx:Loc X.env.scope x)(hf:X.fn x=true\/X.env.scope.names.lookup x=some .local:=by first|exact .inl rfl|exact .inr rfl|assumption):PG X (.Name x pos) (bt4 i):=by
 intro pins s σ H v u Q I r h;exact wpAny_assign_Name (ac4 I hN hi hx r (fun s' I'=>⟨_,H,I',h⟩) hf)
def dx5:TGs:=fun vs σ H Q=>vs=[]/\Q σ H
def dr7 (t:TG)(u:TGs):TGs:=fun vs σ H Q=>∃v r,vs=v::r/\t v σ H fun σ' H'=>u r σ' H' Q
theorem U5:PGs X [] dx5:=by
 intro pins s σ H vs us Q I r h;obtain ⟨e,h⟩:=h;subst e;cases r;exact assignInOrder_nil ⟨σ,H,I,h⟩
theorem C5 {e:Expr}{es:List Expr}{t:TG}{u:TGs}(h1:PG X e t)(h2:PGs X es u)
   (hs:(assignEach (e::es) X.env).map (·.2)=assign e X.env::(assignEach es X.env).map (·.2):=by rfl):PGs X (e::es) (dr7 t u):=by
 intro pins s σ H vs us Q I r h;obtain ⟨v,vr,e1,h⟩:=h;subst e1
 cases r with
 |cons r rr=>
  rw[hs];refine assignInOrder_cons (t7 (h1 pins s σ H _ _ _ I r h) fun _ s1 ⟨σ1,H1,I1,q1⟩=> ?_);exact h2 pins s1 σ1 H1 _ _ Q I1 rr q1
def dx6 (K:PySem.W.Frag)(n:Nat)(t:TGs):TG:=fun v σ H Q=>∃a xs,v= .ref a/\Q0 K H a xs/\xs.length=n/\t xs σ H Q
theorem Y2 {es:List Expr}{k:Nat}{t:TGs}{n:Nat}(hc:X.calm=true)(h:PGs X es t)
   (hn:(assignEach es X.env).length=n:=by rfl) (hst:(assignEach es X.env).findIdx? (·.1)=none:=by rfl):PG X (.Tuple es k pos) (dx6 X.K n t):=by
 intro pins s σ H v u Q I r hw;obtain ⟨a,xs,e1,hq,hl,hw⟩:=hw;subst e1;cases r;obtain ⟨its,rv,ht,hz⟩:=I.tuple hq
 refine assign_Tuple_tuple (I.ok.hd hc) ht (by simp [hn,<-hl,rv.length]) hst fun h' hx=> ?_
 have I1:i4 X pins σ H {s with heap:=h'}:=I.kept (t':=s.toks) fun b o e=>hx b o (eh2 (Heap.lt_size e)) e
 exact h pins _ σ H xs _ Q I1 (by simpa using rv) hw
def dx7 (to ti:TE)(t:cw5):TG:=fun v σ H Q=>to σ H fun o H1=>ti σ H1 fun i H2=>t o i v H2 fun H3=>Q σ H3
theorem an7 {o i:Expr}{to ti:TE}{t:cw5}(ho:PE X o to)(hi:PE X i ti)(hs:dk7 X t)
   (ha:∀v,assign (.Subscript o i pos) X.env v=(do
     let ov <-holding [v] (eval o X.env)
     let iv <-holding [v,ov] (eval i X.env)
     standAt pos
     holding [v,ov,iv] (setItem ov iv v)
     release [v,ov,iv] []):=by intro _;rfl):PG X (.Subscript o i pos) (dx7 to ti t):=by
 intro pins s σ H v u Q I r h;rw[ha];refine wpAny_bind (wpAny_holding (t7 (ho pins s σ H _ I h) fun ov s1 ⟨x,H1,I1,r1,q1⟩=> ?_));refine wpAny_bind (wpAny_holding (t7 (hi pins s1 σ H1 _ I1 q1) fun iv s2 ⟨y,H2,I2,r2,q2⟩=> ?_));refine wpAny_bind (wpAny_standAt (wpAny_bind (wpAny_holding (t7 (hs pins s2 σ H2 x y v ov iv u _ I2 r1 r2 r q2) fun _ s3 ⟨H3,I3,q3⟩=> ?_))));exact wpAny_release ⟨σ,H3,I3,q3⟩
def ci4 (te:TE)(g:TG):TS:=fun D σ H=>te σ H fun x H1=>g x σ H1 D.nx
theorem ah6 {tg e:Expr}{te:TE}{g:TG}(he:PE X e te)(hg:PG X tg g)(hs:swapsWithSole [tg] e pos.line X.env=pure false:=by rfl)(hw:swappedStores [tg] e X.env=pure none:=by rfl)
   (h1:(assignEach [tg] X.env).map (·.2)=[assign tg X.env]:=by rfl):PS X (.Assign [tg] e pos) (ci4 te g):=by
 intro pins s σ H D I h;refine wpAny_Assign_stores (t7 (he pins s σ H _ I h) fun v s1 ⟨x,H1,I1,r1,q1⟩=> ?_) hs hw;rw[h1]
 exact t7 (hg pins s1 σ H1 x v _ I1 r1 q1) fun _ s2 q=>q
theorem i6 {i:Nat}{x:Str}{e:Expr}{te:TE}{pos':Pos}(hN:X.N.Nodup)(hi:X.N[i]? =some x)(hx:Loc X.env.scope x)(he:PE X e te)(hs:swapsWith e (some (.Name x pos')) pos.line X.env=pure false:=by rfl)(hf:X.fn x=true\/X.env.scope.names.lookup x=some .local:=by first|exact .inl rfl|exact .inr rfl|assumption):
   PS X (.Assign [.Name x pos'] e pos) (ci4 te (bt4 i)):=by
 intro pins s σ H D I h;refine wpAny_Assign_Name (t7 (he pins s σ H _ I h) fun v s1 ⟨y,H1,I1,r1,q1⟩=> ?_) hs;exact ac4 I1 hN hi hx r1 (fun s2 I2=>⟨_,H1,I2,q1⟩) hf
def dx8 (i j:Nat)(ta:TA):TS:=fun D σ H=>ta σ H fun vs H1=>∃v w,vs=[v,w]/\D.nx ((σ.set i (some v)).set j (some w)) H1
theorem dk8 {i j:Nat}{x y:Str}{a b:Expr}{ta:TA}{px py pt:Pos}{kt k2 pt2}(hc:X.calm=true)(hN:X.N.Nodup)(hi:X.N[i]? =some x)(hj:X.N[j]? =some y)(hij:i≠j)
   (hx:X.env.scope.names.lookup x=some .local) (hy:X.env.scope.names.lookup y=some .local) (ha:PA X [a,b] ta)
   (hw:swappedStores [.Tuple [.Name x px,.Name y py] kt pt] (.Tuple [a,b] k2 pt2) X.env=pure (some [x,y]))
   (hs:swapsWithSole [.Tuple [.Name x px,.Name y py] kt pt] (.Tuple [a,b] k2 pt2) pos.line X.env=pure false:=by rfl):
   PS X (.Assign [.Tuple [.Name x px,.Name y py] kt pt] (.Tuple [a,b] k2 pt2) pos) (dx8 i j ta):=by
 intro pins s σ H D I h;rw[exec_Assign_arm];refine wpAny_bind (wpAny_standAt ?_);rw[hs];refine wpAny_bind (wpAny_pure ?_);rw[if_neg (by decide)];refine wpAny_bind (Tuple_ (t7 (ha _ pins s σ H _ I h) fun us s1 ⟨vs,H1,I1,r1,q1⟩=> ?_));obtain ⟨v,w,e1,q1⟩:=q1;subst e1
 obtain ⟨u1,u2,rfl,rv,rw'⟩:∃u1 u2,us=[u1,u2]/\o7 v u1/\o7 w u2:=by
   cases r1 with
   |cons p q=>
    cases q with
    |cons p' q'=>
     cases q';exact ⟨_,_,rfl,p,p'⟩
 refine wpAny_newObj_type ?_ (by show 2<=sizeLine;decide)
 have I2:i4 X pins σ H1 {s1 with heap:=s1.heap.push {cls:= .type "tuple",data:= .seq [u1,u2].toArray}}:=I1.kept (t':=s1.toks) fun b o e=>Heap.get?_push_of_some _ e
 rw[hw];refine wpAny_bind (wpAny_pure ?_);show wpAny (model X.prog X.w) X.A (do rule "assign.swapped-stores";let items <-unpackItems (.ref s1.heap.objs.size) 2 none;assignInOrder [fun v=>bindName X.env y v,fun v=>bindName X.env x v] items.reverse;pure Flow.next) _ _ _;refine wpAny_bind (wpAny_rule (wpAny_bind (unpackItems_tuple (items:= #[u1,u2]) (I.ok.hd hc) (IsTup.new s1.heap _) fun h' hx'=> ?_)))
 have I3:=I2.kept (h':=h') (t':=s1.toks) fun b o e=>hx' b o (eh2 (Heap.lt_size e)) e
 show wpAny _ _ (assignInOrder [fun v=>bindName X.env y v,fun v=>bindName X.env x v] [u2,u1] >>=fun _=>pure Flow.next) _ _ _;refine wpAny_bind (assignInOrder_cons (wpAny_bindName (ac4 I3 hN hj (.inl hy) rw' (fun s2 I4=> ?_) (.inr hy))));refine assignInOrder_cons (wpAny_bindName (ac4 I4 hN hi (.inl hx) rv (fun s3 I5=>assignInOrder_nil (wpAny_pure ?_)) (.inr hx)));rw[List.set_comm _ _ (Ne.symm hij)] at I5;exact ⟨_,H1,I5,q1⟩
end
section
variable {X:Cx} {pos:Pos}
def cn1 (c:TT)(tb:TS):TS:=fun D σ H=>∃W:Nat->St->Hp->Prop,(∃m,W m σ H)/\∀m σ H,W m σ H->
 c σ H fun b H1=>if b=true then ∃N:St->Hp->Prop,(∀σ' H',N σ' H'->∃m',m' < m/\W m' σ' H')/\tb {D with nx:=N,ct:=N,bk:=D.nx} σ H1 else D.nx σ H1
theorem ac5 {c:Expr}{body:List Stmt}{tc:TT}{tb:TS}(hp:PassesOwn (model X.prog X.w) X.A X.env X.xe)(hc:PT X c tc)(hb:PSs X body tb):PS X (.While c body [] pos) (cn1 tc tb):=by
 intro pins s σ H D I h;obtain ⟨W,⟨m0,w0⟩,turn⟩:=h;refine wpAny_While (codeAny_whileLoop (fun n s'=>∃σ' H',i4 X pins σ' H' s'/\W n σ' H') ?_ m0 ⟨σ,H,I,w0⟩);rintro n s1 ⟨σ1,H1,I1,w1⟩;refine wpAny_passesOwn hp (t7 (hc pins s1 σ1 H1 _ I1 (turn n σ1 H1 w1)) fun b s2 ⟨H2,I2,q2⟩=> ?_)
 cases b with
 |true=>
  obtain ⟨N,hN,q2⟩:=q2;rw[if_pos rfl];refine wpAny_passesOwn hp (t7 (hb pins s2 σ1 H2 _ I2 q2) fun f s3 q3=> ?_)
  cases f with
  |next=>
   obtain ⟨σ3,H3,I3,n3⟩:=q3;obtain ⟨m',hm,w3⟩:=hN σ3 H3 n3;exact ⟨m',hm,σ3,H3,I3,w3⟩
  |cont=>
   obtain ⟨σ3,H3,I3,n3⟩:=q3;obtain ⟨m',hm,w3⟩:=hN σ3 H3 n3;exact ⟨m',hm,σ3,H3,I3,w3⟩
  |brk=>exact q3
  |ret v=>exact q3
 |false=>
  rw[if_neg ee2];exact wpAny_execs_nil ⟨σ1,H2,I2,q2⟩
end
structure It where
 go:Nat->Hp->Prop
 yld:Nat->Hp->V->Hp->Prop
 stop:Nat->Hp->Prop
def aw4 (X:Cx)(pins:List (Addr×Obj))(H:Hp)(b:Addr):Prop:=
 H b=none/\b≠X.env.locals/\b∉X.fs/\(b∈X.ex\/X.s₀.heap.objs.size<=b)/\(∀x c,X.env.cells.lookup x=some c->c≠b)/\∀p∈X.pn++pins,p.1≠b
theorem i4.fpOk {X:Cx}{pins:List (Addr×Obj)}{σ:St}{H H':Hp}{s:Shared}{b:Addr}(I:i4 X pins σ H s)(hb:s.heap.objs.size<=b)(hn:H' b=none):aw4 X pins H' b:=by
 refine ⟨hn,Nat.ne_of_gt (ef5 I.lt hb),I.nofs hb,.inr (ed3 I.sz hb),fun x c e z=> ?_,fun p hp z=> ?_⟩
 · obtain ⟨v,q⟩:=I.cell x c e;exact absurd (ef5 q.lt (by rw[z];exact hb)) (em2 _)
 · exact absurd (ef5 (Heap.lt_size (I.pin p hp).1) (by rw[z];exact hb)) (em2 _)
structure bl0 (P:Program)(w:World)(K:PySem.W.Frag)(tg:Expr)(J:It)(fp:List Addr)(it:Addr)(tn:Nat->Heap->Prop):Prop where
 mem:it∈fp
 obj:∀i h,tn i h->∀b∈fp,∃o,h.get? b=some o/\∀v,o.data≠.cell v
 keep:∀i h h',tn i h->(∀b∈fp,∀o,h.get? b=some o->h'.get? b=some o)->tn i h'
 item:∀(X:Cx),X.prog=P->X.w=w->X.K=K->X.calm=true->∀(i:Nat) (pins:List (Addr×Obj)) (s:Shared) (σ:St) (H:Hp) (E:Value->Shared->Prop),i4 X pins σ H s->(∀b∈fp,aw4 X pins H b)->tn i s.heap->J.go i H->
   wpAny (model P w) X.A (pyNext (.ref it)) (fun r s1=>∃u,r=some u/\
     wpAny (model P w) X.A (letOwnedTupleGo tg (.ref it) u) (fun _ s2=>∃x H',i4 X pins σ H' s2/\o7 x u/\J.yld i H x H'/\tn (i+1) s2.heap/\∀b∈fp,H' b=none) E s1) E s
 done:∀(X:Cx),X.prog=P->X.w=w->X.K=K->X.calm=true->∀(i:Nat) (pins:List (Addr×Obj)) (s:Shared) (σ:St) (H:Hp) (E:Value->Shared->Prop),i4 X pins σ H s->(∀b∈fp,aw4 X pins H b)->tn i s.heap->J.stop i H->
   wpAny (model P w) X.A (pyNext (.ref it)) (fun r s1=>r=none/\i4 X pins σ H s1) E s
 self:∀(A:Around) (i:Nat) (s:Shared) (Q:Value->Shared->Prop) (E:Value->Shared->Prop),tn i s.heap->Q (.ref it) s->wpAny (model P w) A (pyIter (.ref it)) Q E s
abbrev TI:=St->Hp->(It->Hp->Prop)->Prop
def PIE (X:Cx)(pins:List (Addr×Obj))(σ:St)(tg:Expr)(R:It->Hp->Prop)(itv:Value)(s2:Shared):Prop:=
 ∃(it:Addr) (fp:List Addr) (tn:Nat->Heap->Prop) (J:It) (H':Hp),itv= .ref it/\i4 X pins σ H' s2/\bl0 X.prog X.w X.K tg J fp it tn/\tn 0 s2.heap/\(∀b∈fp,aw4 X pins H' b)/\R J H'
def PI (X:Cx)(tg iter:Expr)(wi:TI):Prop:=
 ∀(pins:List (Addr×Obj)) (s:Shared) (σ:St) (H:Hp) (R:It->Hp->Prop),i4 X pins σ H s->wi σ H R->
  wpAny (model X.prog X.w) X.A (eval iter X.env) (fun v s1=>wpAny (model X.prog X.w) X.A (pyIter v) (PIE X pins σ tg R) X.xe s1) X.xe s
theorem bt5 {M:Model}{A:Around}{E:Value->Shared->Prop}{s:Shared}{tg:Expr}{it:Addr}{u:Value}{o:Obj}{n:String}{vs:Array Value}{Q:Unit->Shared->Prop}(ho:s.heap.get? it=some o)(hc:o.cls= .type n)(hd:o.data= .fields vs)
   (hn:["enumerate","zip","dict_itemiterator","dict_reverseitemiterator","odict_iterator","itertools.zip_longest","itertools.pairwise"].contains n=false) (hQ:Q () s):wpAny M A (letOwnedTupleGo tg (.ref it) u) Q E s:=by
 unfold letOwnedTupleGo
 cases tg<;>first
   |exact wpAny_pure hQ
   |(cases u<;>first
       |exact wpAny_pure hQ
       |(refine wpAny_bind (wpAny_load ho ?_)
         rw[hc,hd];show wpAny M A (if (["enumerate","zip","dict_itemiterator","dict_reverseitemiterator","odict_iterator","itertools.zip_longest","itertools.pairwise"].contains n&&vs[0]? ==some (rawInt _))=true then _ else _) Q E s;rw[if_neg (by intro h;rw[hn,Bool.false_and] at h;cases h)]
         exact wpAny_pure hQ))
def Itl (K:PySem.W.Frag)(a:Addr):It:=
 ⟨fun i H=>∃xs x,g9 K H a xs/\xs[i]? =some x,fun i H x H'=>H'=H/\∀xs,g9 K H a xs->xs[i]? =some x,fun i H=>∃xs,g9 K H a xs/\xs.length<=i⟩
def Itt (K:PySem.W.Frag)(a:Addr):It:=
 ⟨fun i H=>∃xs x,Q0 K H a xs/\xs[i]? =some x,fun i H x H'=>H'=H/\∀xs,Q0 K H a xs->xs[i]? =some x,fun i H=>∃xs,Q0 K H a xs/\xs.length<=i⟩
def Itr (lo:Int)(n:Nat):It:=⟨fun i _=>i < n,fun i H x H'=>H'=H/\x= .int (lo+i),fun i _=>n<=i⟩
theorem cn3 {P:Program}{w:World}{K:PySem.W.Frag}{tg:Expr}(a it:Addr):bl0 P w K tg (Itl K a) [it] it (fun i h=>h.IsListIter it a i) where
 mem:=by simp
 obj:=fun i h st b hb=>by
   have e:b=it:=by simpa using hb
   subst e;obtain ⟨o,e,c,d⟩:=st;exact ⟨o,e,fun v z=>by rw[d] at z;cases z⟩
 keep:=fun i h h' st k=>st.at fun o e=>k it (by simp) o e
 item:=by
   intro X hP hw hK hc i pins s σ H E I hf st hg;subst hP hw hK;obtain ⟨xs,x,hq,hx⟩:=hg;obtain ⟨its,rv,p,hz⟩:=I.list hq;obtain ⟨u,hu,ru⟩:=rv.get hx;obtain ⟨f0,f1,f2,f3,f4,f5⟩:=hf it (by simp)
   refine wpAny_pyNext_list_item st p.isList (x:=u) (by simpa using hu) fun h' st' sb=> ?_
   have I1:i4 X pins σ H {s with heap:=h'}:=I.turned (t':=s.toks) (fun b o hb e=>(sb.2 b hb).trans e) f0 f1 f3 f4 f5;obtain ⟨o,e,c,d⟩:=id st';exact ⟨u,rfl,bt5 (s:={s with heap:=h'}) e c d (by decide) ⟨x,H,I1,ru,⟨rfl,fun ys hy=>by rw[I.list_inj hy hq];exact hx⟩,st',fun b hb=>(hf b hb).1⟩⟩
 done:=by
   intro X hP hw hK hc i pins s σ H E I hf st hg;subst hP hw hK;obtain ⟨xs,hq,hx⟩:=hg;obtain ⟨its,rv,p,hz⟩:=I.list hq;obtain ⟨f0,f1,f2,f3,f4,f5⟩:=hf it (by simp);have hl:=rv.length
   exact wpAny_pyNext_list_end (I.ok.hd hc) st p.isList (by simp;omega) fun h' eb=>⟨rfl,I.turned (t':=s.toks) (fun b o hb e=>eb b o hb e) f0 f1 f3 f4 f5⟩
 self:=fun _ _ _ _ _ st h=>wpAny_pyIter_listiter st h
theorem ci5 {P:Program}{w:World}{K:PySem.W.Frag}{tg:Expr}(a it:Addr):bl0 P w K tg (Itt K a) [it] it (fun i h=>h.IsTupleIter it a i) where
 mem:=by simp
 obj:=fun i h st b hb=>by
   have e:b=it:=by simpa using hb
   subst e;obtain ⟨o,e,c,d⟩:=st;exact ⟨o,e,fun v z=>by rw[d] at z;cases z⟩
 keep:=fun i h h' st k=>st.at fun o e=>k it (by simp) o e
 item:=by
   intro X hP hw hK hc i pins s σ H E I hf st hg;subst hP hw hK;obtain ⟨xs,x,hq,hx⟩:=hg;obtain ⟨its,rv,p,hz⟩:=I.tuple hq;obtain ⟨u,hu,ru⟩:=rv.get hx;obtain ⟨f0,f1,f2,f3,f4,f5⟩:=hf it (by simp)
   refine wpAny_pyNext_tuple_item st (show s.heap.IsTuple a its.toArray from p) (x:=u) (by simpa using hu) fun h' st' sb=> ?_
   have I1:i4 X pins σ H {s with heap:=h'}:=I.turned (t':=s.toks) (fun b o hb e=>(sb.2 b hb).trans e) f0 f1 f3 f4 f5;obtain ⟨o,e,c,d⟩:=id st';exact ⟨u,rfl,bt5 (s:={s with heap:=h'}) e c d (by decide) ⟨x,H,I1,ru,⟨rfl,fun ys hy=>by rw[I.tuple_inj hy hq];exact hx⟩,st',fun b hb=>(hf b hb).1⟩⟩
 done:=by
   intro X hP hw hK hc i pins s σ H E I hf st hg;subst hP hw hK;obtain ⟨xs,hq,hx⟩:=hg;obtain ⟨its,rv,p,hz⟩:=I.tuple hq;obtain ⟨f0,f1,f2,f3,f4,f5⟩:=hf it (by simp);have hl:=rv.length
   exact wpAny_pyNext_tuple_end (I.ok.hd hc) st (show s.heap.IsTuple a its.toArray from p) (by simp;omega) fun h' eb=>⟨rfl,I.turned (t':=s.toks) (fun b o hb e=>eb b o hb e) f0 f1 f3 f4 f5⟩
 self:=fun _ _ _ _ _ st h=>wpAny_pyIter_tupleiter st h
theorem ci6 {P:Program}{w:World}{K:PySem.W.Frag}{tg:Expr}(it:Addr)(lo:Int)(n:Nat):bl0 P w K tg (Itr lo n) [it] it (fun i h=>IsRangeIter h it (lo+(i:Nat)*1) ((n:Int) - (i:Nat)) 1) where
 mem:=by simp
 obj:=fun i h st b hb=>by
   have e:b=it:=by simpa using hb
   subst e
   exact ⟨_,st,fun v z=>by
     have z':Data.fields _=Data.cell v:=z
     cases z'⟩
 keep:=fun i h h' st k=>k it (by simp) _ st
 item:=by
   intro X hP hw hK hc i pins s σ H E I hf st hg;subst hP hw hK;obtain ⟨f0,f1,f2,f3,f4,f5⟩:=hf it (by simp);have W:=Walks.range (prog:=X.prog) (w:=X.w) (I.ok.hd hc) it lo 1 n
   refine W.item i s _ _ hg st fun v h' tk hv st' kk=> ?_
   obtain ⟨t,rfl⟩:=hv;have I1:i4 X pins σ H {s with heap:=h',toks:=tk}:=I.turned (fun b o hb e=>kk b o (by simpa using hb) e) f0 f1 f3 f4 f5;refine ⟨_,rfl,bt5 (s:={s with heap:=h',toks:=tk}) (n:="range_iterator") st' rfl rfl (by decide) ⟨.int (lo+i),H,I1,⟨t,?_⟩,⟨rfl,rfl⟩,st',fun b hb=>(hf b hb).1⟩⟩;rw[Int.mul_one]
 done:=by
   intro X hP hw hK hc i pins s σ H E I hf st hg;subst hP hw hK;obtain ⟨f0,f1,f2,f3,f4,f5⟩:=hf it (by simp)
   exact wpAny_pyNext_range_end (I.ok.hd hc) st (by have:n<=i:=hg;omega) fun h' eb=>⟨rfl,I.turned (t':=s.toks) (fun b o hb e=>eb b o hb e) f0 f1 f3 f4 f5⟩
 self:=fun _ _ _ _ _ st h=>wpAny_pyIter_rangeiter st h
end L2
namespace L2
open PySem PySem.Spec PyProof.Rows
section
variable {X:Cx} {tg:Expr}
def dr8 (K:PySem.W.Frag)(tl:TE):TI:=fun σ H R=>tl σ H fun x H1=>∃a,x= .ref a/\(∃xs,g9 K H1 a xs)/\R (Itl K a) H1
def dx9 (K:PySem.W.Frag)(tl:TE):TI:=fun σ H R=>tl σ H fun x H1=>∃a,x= .ref a/\(∃xs,Q0 K H1 a xs)/\R (Itt K a) H1
theorem E2 {l:Expr}{tl:TE}(hl:PE X l tl):PI X tg l (dr8 X.K tl):=by
 intro pins s σ H R I h
 refine t7 (hl pins s σ H _ I h) fun v s1 ⟨x,H1,I1,r1,q1⟩=> ?_
 obtain ⟨a,e,⟨xs,hq⟩,q⟩:=q1;subst e;cases r1;obtain ⟨its,rv,p,hz⟩:=I1.list hq;refine wpAny_pyIter_list p.isList ?_;refine ⟨s1.heap.objs.size,[s1.heap.objs.size],_,_,H1,rfl,I1.kept (t':=s1.toks) fun b o e=>Heap.get?_push_of_some _ e,cn3 a _,⟨_,Heap.get?_push_size _ rfl,rfl,rfl⟩,fun b hb=> ?_,q⟩
 have e:b=s1.heap.objs.size:=by simpa using hb
 subst e;exact I1.fpOk (ec0 _) (I1.hok.fresh (ec0 _))
theorem dk9 {l:Expr}{tl:TE}(hl:PE X l tl):PI X tg l (dx9 X.K tl):=by
 intro pins s σ H R I h
 refine t7 (hl pins s σ H _ I h) fun v s1 ⟨x,H1,I1,r1,q1⟩=> ?_
 obtain ⟨a,e,⟨xs,hq⟩,q⟩:=q1;subst e;cases r1;obtain ⟨its,rv,p,hz⟩:=I1.tuple hq;refine wpAny_pyIter_tuple (show s1.heap.IsTuple a its.toArray from p) ?_;refine ⟨s1.heap.objs.size,[s1.heap.objs.size],_,_,H1,rfl,I1.kept (t':=s1.toks) fun b o e=>Heap.get?_push_of_some _ e,ci5 a _,⟨_,Heap.get?_push_size _ rfl,rfl,rfl⟩,fun b hb=> ?_,q⟩
 have e:b=s1.heap.objs.size:=by simpa using hb
 subst e;exact I1.fpOk (ec0 _) (I1.hok.fresh (ec0 _))
theorem bu5 {pins:List (Addr×Obj)}{σ:St}{H:Hp}{s:Shared}{R:It->Hp->Prop}{E:Value->Shared->Prop}{lo hi:Int}{t u v:Tok}{tk:Nat}(I:i4 X pins σ H s)(h1: -(2^62)<=lo)(h2:lo < 2^62)(h3: -(2^62)<=hi)(h4:hi < 2^62)
   (q:R (Itr lo (hi - lo).toNat) H):wpAny (model X.prog X.w) X.A (pyIter (.ref s.heap.objs.size)) (PIE X pins σ tg R) E {s with heap:=s.heap.push {cls:= .type "range",data:= .fields #[.int lo t,.int hi u,.int 1 v]},toks:=tk}:=by
 refine wpAny_pyIter_range (IsRange.new ..) (small_one h1 h2 h3 h4) ?_
 have I1:i4 X pins σ H {s with heap:=s.heap.push {cls:= .type "range",data:= .fields #[.int lo t,.int hi u,.int 1 v]},toks:=tk}:=I.kept fun b o e=>Heap.get?_push_of_some _ e
 refine ⟨(s.heap.push {cls:= .type "range",data:= .fields #[.int lo t,.int hi u,.int 1 v]}).objs.size,[(s.heap.push {cls:= .type "range",data:= .fields #[.int lo t,.int hi u,.int 1 v]}).objs.size],_,_,H,rfl,
   I1.kept (t':=tk) fun b o e=>Heap.get?_push_of_some _ e,ci6 _ lo (hi - lo).toNat,?_,fun b hb=> ?_,q⟩
 · have e1:lo+((0:Nat):Int)*1=lo:=by simp
   have e2:(((hi - lo).toNat:Nat):Int) - ((0:Nat):Int)=Builtin.Range.rangeSize lo hi 1:=by rw[rangeSize_one];split<;>omega
   show IsRangeIter _ _ (lo+((0:Nat):Int)*1) ((((hi - lo).toNat:Nat):Int) - ((0:Nat):Int)) 1;rw[e1,e2];exact Heap.get?_push_size _ rfl
 · have e:b=(s.heap.push {cls:= .type "range",data:= .fields #[.int lo t,.int hi u,.int 1 v]}).objs.size:=by simpa using hb
   subst e;exact I1.fpOk (ec0 _) (I1.hok.fresh (ec0 _))
def dr9 (ta:TA):TI:=fun σ H R=>ta σ H fun vs H1=>∃j:Int,vs=[.int j]/\ -(2^62)<=j/\j < 2^62/\R (Itr 0 j.toNat) H1
def ds0 (ta:TA):TI:=fun σ H R=>ta σ H fun vs H1=>∃i j:Int,vs=[.int i,.int j]/\(-(2^62)<=i/\i < 2^62/\ -(2^62)<=j/\j < 2^62)/\R (Itr i (j - i).toNat) H1
theorem G5 {a:Expr}{ta:TA}{p pos:Pos}(hg:Gl X "range")(hm:X.mg "range"=none)(ha:PA X [a] ta)(hs:starEach [a] X.env=[(false,eval a X.env)]:=by rfl):PI X tg (.Call (.Name "range" p) [a] [] pos) (dr9 ta):=by
 intro pins s σ H R I h;refine Call_ (an6 I hg hm boot_range (PyProof.Rows.callWith_type1 (t7 (ha pos pins s σ H _ I h) fun us s1 ⟨vs,H1,I1,r1,q1⟩=> ?_) hs rfl));obtain ⟨j,e,q1,q2,q⟩:=q1;subst e
 cases r1 with
 |cons r rr=>
  cases rr;obtain ⟨t,rfl⟩:=r;exact call_range_1 (bu5 I1 (by omega) (by omega) q1 q2 (by simpa using q))
theorem O1 {a b:Expr}{ta:TA}{p pos:Pos}(hg:Gl X "range")(hm:X.mg "range"=none)(ha:PA X [a,b] ta)(hs:starEach [a,b] X.env=[(false,eval a X.env),(false,eval b X.env)]:=by rfl)(hs2:starEach [b] X.env=[(false,eval b X.env)]:=by rfl):
   PI X tg (.Call (.Name "range" p) [a,b] [] pos) (ds0 ta):=by
 intro pins s σ H R I h;refine Call_ (an6 I hg hm boot_range (PyProof.Rows.callWith_type1 (t7 (ha pos pins s σ H _ I h) fun us s1 ⟨vs,H1,I1,r1,q1⟩=> ?_) (by rw[hs,hs2]) (by rw[hs2];rfl)));obtain ⟨i,j,e,⟨q1,q2,q3,q4⟩,q⟩:=q1;subst e
 cases r1 with
 |cons r rr=>
  cases rr with
  |cons r' rr=>
   cases rr;obtain ⟨t,rfl⟩:=r;obtain ⟨t',rfl⟩:=r';exact call_range_2 (bu5 I1 q1 q2 q3 q4 q)
def dy0 (wi:TI)(g:TG)(tb:TS):TS:=fun D σ H=>wi σ H fun J H1=>∃W:Nat->Nat->St->Hp->Prop,(∃m,W 0 m σ H1)/\∀i m σ H,W i m σ H->
 (J.stop i H/\D.nx σ H)\/(J.go i H/\∃N:St->Hp->Prop,(∀σ' H',N σ' H'->∃m',m' < m/\W (i+1) m' σ' H')/\∀x H',J.yld i H x H'->g x σ H' fun σ2 H2=>tb {D with nx:=N,ct:=N,bk:=D.nx} σ2 H2)
def ah7 (fp:List Addr)(h:Heap):List (Addr×Obj):=fp.filterMap fun b=>(h.get? b).map fun o=>(b,o)
theorem ag6 {fp:List Addr}{h:Heap}{b:Addr}{o:Obj}(hb:b∈fp)(e:h.get? b=some o):(b,o)∈ah7 fp h:=es5.mpr ⟨b,hb,by rw[e];rfl⟩
theorem bo8 {fp:List Addr}{h:Heap}{p:Addr×Obj}(hp:p∈ah7 fp h):p.1∈fp/\h.get? p.1=some p.2:=by
 obtain ⟨b,hb,e⟩:=es5.mp hp
 cases q:h.get? b with
 |none=>rw[q] at e;cases e
 |some o=>
  rw[q] at e;have e':(b,o)=p:=Option.some.inj e;subst e';exact ⟨hb,q⟩
theorem i4.pinned {pins:List (Addr×Obj)}{σ:St}{H:Hp}{s:Shared}{fp:List Addr}(I:i4 X pins σ H s)(hf:∀b∈fp,aw4 X pins H b)(ho:∀b∈fp,∃o,s.heap.get? b=some o/\∀v,o.data≠.cell v):i4 X (pins++ah7 fp s.heap) σ H s:=
 I.pins_of fun p hp=>(ed0.mp hp).elim (fun z=>I.pin p (ed8 _ z)) fun z=>by
   obtain ⟨hb,e⟩:=bo8 z;obtain ⟨f0,f1,f2,_⟩:=hf p.1 hb;obtain ⟨o,e',d⟩:=ho p.1 hb;rw[e] at e';cases e';exact ⟨e,f0,f1,f2,d⟩
theorem i4.unpinned {pins pl:List (Addr×Obj)}{σ:St}{H:Hp}{s:Shared}(I:i4 X (pins++pl) σ H s):i4 X pins σ H s:=I.pins_of fun p hp=>I.pin p (ed8 _ (ef7 _ hp))
theorem o9 {iter:Expr}{body:List Stmt}{wi:TI}{g:TG}{tb:TS}{pos:Pos}(hp:PassesOwn (model X.prog X.w) X.A X.env X.xe)(hc:X.calm=true)(hi:PI X tg iter wi)(hg:PG X tg g)(hb:PSs X body tb)
   (hs:∀x,foldedSetIterable iter X.env x=pure x:=by intro _;rfl):PS X (.For tg iter body [] pos) (dy0 wi g tb):=by
 intro pins s σ H D I h;refine wpAny_For (t7 (hi pins s σ H _ I h) fun v s1 h1=>t7 h1 fun itv s2 h2=> ?_) hs;obtain ⟨it,fp,tn,J,H2,e,I2,T,st2,f2,W,⟨m0,w0⟩,turn⟩:=h2;subst e
 have stat:∀{H':Hp},(∀b∈fp,H' b=none)->∀b∈fp,aw4 X pins H' b:=fun hn b hb=>⟨hn b hb,(f2 b hb).2⟩
 refine codeAny_forLoop_any (fun n s'=>∃i σ' H',i4 X pins σ' H' s'/\tn i s'.heap/\(∀b∈fp,H' b=none)/\W i n σ' H') ?_ m0 ⟨0,σ,H2,I2,st2,fun b hb=>(f2 b hb).1,w0⟩;rintro n s3 ⟨i,σ3,H3,I3,st3,fr3,w3⟩
 rcases turn i n σ3 H3 w3 with ⟨stop,qn⟩|⟨go,N,hN,step⟩
 · refine wpAny_passesOwn hp (t7 (T.done X rfl rfl rfl hc i pins s3 σ3 H3 X.xe I3 (stat fr3) st3 stop) fun r s4 ⟨hr,I4⟩=> ?_);subst hr;exact wpAny_execs_nil ⟨σ3,H3,I4,qn⟩
 · refine wpAny_passesOwn hp (t7 (T.item X rfl rfl rfl hc i pins s3 σ3 H3 X.xe I3 (stat fr3) st3 go) fun r s4 ⟨u,hr,h4⟩=> ?_);subst hr;refine wpAny_passesOwn hp (t7 h4 fun _ s5 ⟨x,H5,I5,r5,y5,st5,fr5⟩=> ?_);have I5':=I5.pinned (stat fr5) (T.obj _ _ st5);refine wpAny_passesOwn hp (t7 (hg _ s5 σ3 H5 x u _ I5' r5 (step x H5 y5)) fun _ s6 ⟨σ6,H6,I6,q6⟩=> ?_);refine wpAny_passesOwn hp (t7 (hb _ s6 σ6 H6 _ I6 q6) fun f s7 q7=> ?_)
   have again:∀{σ7:St} {H7:Hp},i4 X (pins++ah7 fp s5.heap) σ7 H7 s7->N σ7 H7->∃m,m < n/\∃i σ' H',i4 X pins σ' H' s7/\tn i s7.heap/\(∀b∈fp,H' b=none)/\W i m σ' H':=fun {σ7 H7} I7 n7=>by
     obtain ⟨m',hm,w7⟩:=hN σ7 H7 n7;refine ⟨m',hm,i+1,σ7,H7,I7.unpinned,T.keep _ _ _ st5 fun b hb o e=>(I7.pin (b,o) (ed8 _ (ed8 _ (ag6 hb e)))).1,fun b hb=> ?_,w7⟩;obtain ⟨o,e,d⟩:=T.obj _ _ st5 b hb;exact (I7.pin (b,o) (ed8 _ (ed8 _ (ag6 hb e)))).2.1
   cases f with
   |next=>obtain ⟨σ7,H7,I7,n7⟩:=q7;exact again I7 n7
   |cont=>obtain ⟨σ7,H7,I7,n7⟩:=q7;exact again I7 n7
   |brk=>obtain ⟨σ7,H7,I7,q7⟩:=q7;exact ⟨σ7,H7,I7.unpinned,q7⟩
   |ret v=>obtain ⟨x7,σ7,H7,I7,r7,q7⟩:=q7;exact ⟨x7,σ7,H7,I7.unpinned,r7,q7⟩
end
theorem K2 {K:PySem.W.Frag}{a:Addr}{xs:List V}{g:TG}{tb:TS}{D:S6}{σ:St}{H:Hp}(Pv:Nat->St->Hp->Prop)(h0:Pv 0 σ H)(hl:∀i σ H,i<=xs.length->Pv i σ H->g9 K H a xs)
   (hs:∀i x σ H,xs[i]? =some x->Pv i σ H->g x σ H fun σ2 H2=>tb {D with nx:=Pv (i+1),ct:=Pv (i+1),bk:=D.nx} σ2 H2) (hd:∀σ H,Pv xs.length σ H->D.nx σ H):
   ∃W:Nat->Nat->St->Hp->Prop,(∃m,W 0 m σ H)/\∀i m σ H,W i m σ H->
    ((Itl K a).stop i H/\D.nx σ H)\/((Itl K a).go i H/\∃N:St->Hp->Prop,(∀σ' H',N σ' H'->∃m',m' < m/\W (i+1) m' σ' H')/\∀x H',(Itl K a).yld i H x H'->g x σ H' fun σ2 H2=>tb {D with nx:=N,ct:=N,bk:=D.nx} σ2 H2):=by
 refine ⟨fun i m σ H=>m=xs.length - i/\i<=xs.length/\Pv i σ H,⟨xs.length,by simp,ed7 _,h0⟩,?_⟩;rintro i m σ H ⟨rfl,hi,p⟩;have q:=hl i σ H hi p
 by_cases hlt:i < xs.length
 · refine .inr ⟨⟨xs,xs[i],q,by simp [hlt]⟩,Pv (i+1),fun σ' H' p'=>⟨xs.length - (i+1),by omega,rfl,hlt,p'⟩,fun x H' y=> ?_⟩;obtain ⟨e,y⟩:=y;subst e;exact hs i x σ _ (y xs q) p
 · have e:i=xs.length:=by omega
   subst e;exact .inl ⟨⟨xs,q,ec0 _⟩,hd σ H p⟩
theorem C6 {lo:Int}{n:Nat}{g:TG}{tb:TS}{D:S6}{σ:St}{H:Hp}(Pv:Nat->St->Hp->Prop)(h0:Pv 0 σ H)
   (hs:∀i σ H,i < n->Pv i σ H->g (.int (lo+i)) σ H fun σ2 H2=>tb {D with nx:=Pv (i+1),ct:=Pv (i+1),bk:=D.nx} σ2 H2) (hd:∀σ H,Pv n σ H->D.nx σ H):
   ∃W:Nat->Nat->St->Hp->Prop,(∃m,W 0 m σ H)/\∀i m σ H,W i m σ H->
    ((Itr lo n).stop i H/\D.nx σ H)\/((Itr lo n).go i H/\∃N:St->Hp->Prop,(∀σ' H',N σ' H'->∃m',m' < m/\W (i+1) m' σ' H')/\∀x H',(Itr lo n).yld i H x H'->g x σ H' fun σ2 H2=>tb {D with nx:=N,ct:=N,bk:=D.nx} σ2 H2):=by
 refine ⟨fun i m σ H=>m=n - i/\i<=n/\Pv i σ H,⟨n,by simp,ed7 _,h0⟩,?_⟩;rintro i m σ H ⟨rfl,hi,p⟩
 by_cases hlt:i < n
 · refine .inr ⟨hlt,Pv (i+1),fun σ' H' p'=>⟨n - (i+1),by omega,rfl,hlt,p'⟩,fun x H' y=> ?_⟩;obtain ⟨e,y⟩:=y;subst e y;exact hs i σ _ hlt p
 · have e:i=n:=by omega
   subst e;exact .inl ⟨ec0 _,hd σ H p⟩
theorem be0 {c:TT}{tb:TS}{D:S6}{σ:St}{H:Hp}(Pv:St->Hp->Prop)(μ:St->Hp->Nat)(h0:Pv σ H)
   (hs:∀σ H,Pv σ H->c σ H fun b H1=>if b=true then tb {D with nx:=fun σ' H'=>Pv σ' H'/\μ σ' H' < μ σ H,ct:=fun σ' H'=>Pv σ' H'/\μ σ' H' < μ σ H,bk:=D.nx} σ H1 else D.nx σ H1)
   (mono:∀σ H Q Q',(∀b H1,Q b H1->Q' b H1)->c σ H Q->c σ H Q'):cn1 c tb D σ H:=by
 refine ⟨fun m σ H=>m=μ σ H/\Pv σ H,⟨_,rfl,h0⟩,?_⟩;rintro m σ H ⟨rfl,p⟩;refine mono σ H _ _ (fun b H1 q=> ?_) (hs σ H p)
 cases b with
 |true=>exact ⟨_,fun σ' H' ⟨p',l⟩=>⟨_,l,rfl,p'⟩,q⟩
 |false=>exact q
end L2
namespace L2
open PySem PySem.Spec PyProof.Rows
abbrev R2:=V->V->Hp->VK->Prop
def O7 (X:Cx)(f:Value->Value->Sem Value)(r:R2):Prop:=
 ∀(pins:List (Addr×Obj)) (s:Shared) (σ:St) (H:Hp) (x y:V) (v u:Value) (Q:VK),i4 X pins σ H s->o7 x v->o7 y u->r x y H Q->
  wpAny (model X.prog X.w) X.A (f v u) (EP X pins σ Q) X.xe s
def UnR (X:Cx)(f:Value->Sem Value)(r:V->Hp->VK->Prop):Prop:=
 ∀(pins:List (Addr×Obj)) (s:Shared) (σ:St) (H:Hp) (x:V) (v:Value) (Q:VK),i4 X pins σ H s->o7 x v->r x H Q->
  wpAny (model X.prog X.w) X.A (f v) (EP X pins σ Q) X.xe s
def W9 (X:Cx)(f:Value)(r:List V->Hp->VK->Prop):Prop:=
 ∀(pins:List (Addr×Obj)) (s:Shared) (σ:St) (H:Hp) (xs:List V) (us:List Value) (Q:VK),i4 X pins σ H s->l8 xs us->r xs H Q->
  wpAny (model X.prog X.w) X.A (call f us) (EP X pins σ Q) X.xe s
def tOp (r:R2)(ta tb:TE):TE:=fun σ H Q=>ta σ H fun x H1=>tb σ H1 fun y H2=>r x y H2 Q
def tUn (r:V->Hp->VK->Prop)(ta:TE):TE:=fun σ H Q=>ta σ H fun x H1=>r x H1 Q
def rI (C:Int->Int->Prop)(g:Int->Int->V):R2:=fun x y H Q=>∃i j,x= .int i/\y= .int j/\C i j/\Q (g i j) H
def rI0 (g:Int->Int->V):R2:=fun x y H Q=>∃i j,x= .int i/\y= .int j/\Q (g i j) H
def rU (g:Int->V):V->Hp->VK->Prop:=fun x H Q=>∃i,x= .int i/\Q (g i) H
section
variable {X:Cx} {a b c:Expr} {ta tb tc:TE} {pos:Pos}
theorem cw6 (ha:PE X a ta)(hb:PE X b tb){pins:List (Addr×Obj)}{s:Shared}{σ:St}{H:Hp}{R:V->V->Hp->Prop}(I:i4 X pins σ H s)
   (h:ta σ H fun x H1=>tb σ H1 fun y H2=>R x y H2) {Q:Value->Shared->Prop} {f:Value->Value->Sem Value}
   (hf:∀v u s2 x y H2,i4 X pins σ H2 s2->o7 x v->o7 y u->R x y H2->wpAny (model X.prog X.w) X.A (f v u) Q X.xe s2):
   wpAny (model X.prog X.w) X.A (eval a X.env) (fun v s₁=>wpAny (model X.prog X.w) X.A (eval b X.env) (fun u s₂=>wpAny (model X.prog X.w) X.A (f v u) Q X.xe s₂) X.xe s₁) X.xe s:=by
 refine t7 (ha pins s σ H _ I h) fun v s1 ⟨x,H1,I1,r1,q1⟩=> ?_
 refine t7 (hb pins s1 σ H1 _ I1 q1) fun u s2 ⟨y,H2,I2,r2,q2⟩=> ?_
 exact hf v u s2 x y H2 I2 r1 r2 q2
theorem i7 {op:Operator}{r:R2}(ho:O7 X (binaryOp op) r)(ha:PE X a ta)(hb:PE X b tb):PE X (.BinOp a op b pos) (tOp r ta tb):=by
 intro pins s σ H Q I h;exact wpAny_BinOp (cw6 ha hb I h fun v u s2 x y H2 I2 rx ry q=>ho pins s2 σ H2 x y v u Q I2 rx ry q)
theorem ds1 {op:UnaryOp}{r:V->Hp->VK->Prop}(ho:UnR X (unaryOp op) r)(ha:PE X a ta):PE X (.UnaryOp op a pos) (tUn r ta):=by
 intro pins s σ H Q I h;exact UnaryOp_ (t7 (ha pins s σ H _ I h) fun v s1 ⟨x,H1,I1,r1,q1⟩=>ho pins s1 σ H1 x v Q I1 r1 q1)
theorem opI {f:Value->Value->Sem Value}{C:Int->Int->Prop}{g:Int->Int->Int}
   (rule:∀(i j:Int) (t u:Tok) (s:Shared) (Q:Value->Shared->Prop) (E:Value->Shared->Prop),C i j->Q (.int (g i j) s.toks) {s with toks:=s.toks+1}->wpAny (model X.prog X.w) X.A (f (.int i t) (.int j u)) Q E s):
   O7 X f (rI C fun i j=> .int (g i j)):=by
 intro pins s σ H x y v u Q I rx ry h;obtain ⟨i,j,rfl,rfl,hc,q⟩:=h;obtain ⟨t,rfl⟩:=rx;obtain ⟨t',rfl⟩:=ry;exact rule i j t t' s _ _ hc ⟨.int (g i j),H,I.tok _,⟨_,rfl⟩,q⟩
theorem dl1 {f:Value->Value->Sem Value}{g:Int->Int->Int}
   (rule:∀(i j:Int) (t u:Tok) (s:Shared) (Q:Value->Shared->Prop) (E:Value->Shared->Prop),Q (.int (g i j) s.toks) {s with toks:=s.toks+1}->wpAny (model X.prog X.w) X.A (f (.int i t) (.int j u)) Q E s):
   O7 X f (rI0 fun i j=> .int (g i j)):=by
 intro pins s σ H x y v u Q I rx ry h;obtain ⟨i,j,rfl,rfl,q⟩:=h;obtain ⟨t,rfl⟩:=rx;obtain ⟨t',rfl⟩:=ry;exact rule i j t t' s _ _ ⟨.int (g i j),H,I.tok _,⟨_,rfl⟩,q⟩
theorem ci7 {f:Value->Value->Sem Value}{g:Int->Int->Bool}
   (rule:∀(i j:Int) (t u:Tok) (s:Shared) (Q:Value->Shared->Prop) (E:Value->Shared->Prop),Q (.bool (g i j)) s->wpAny (model X.prog X.w) X.A (f (.int i t) (.int j u)) Q E s):
   O7 X f (rI0 fun i j=> .bl (g i j)):=by
 intro pins s σ H x y v u Q I rx ry h;obtain ⟨i,j,rfl,rfl,q⟩:=h;obtain ⟨t,rfl⟩:=rx;obtain ⟨t',rfl⟩:=ry;exact rule i j t t' s _ _ ⟨.bl (g i j),H,I,rfl,q⟩
def dy1 (i j:Int):Prop:=0 < j/\j < 1073741824
def dl2 (i j:Int):Prop:=0<=j/\j<=1000000/\i.natAbs < 2^64
def cw7 (i j:Int):Prop:=(-(2^64) < i/\i < 2^64)\/(-(2^64) < j/\j < 2^64)
theorem cw7.ok {i j:Int}(h:cw7 i j):IntMulOk i j:=by
 rcases h with ⟨h1,h2⟩|⟨h1,h2⟩
 · exact .of_left (intBits_le_64 h1 h2)
 · exact .of_right (intBits_le_64 h1 h2)
theorem E3:O7 X (binaryOp .Add) (rI0 fun i j=> .int (i+j)):=dl1 fun _ _ _ _ _ _ _ q=>add_int q
theorem V5:O7 X (binaryOp .Sub) (rI0 fun i j=> .int (i - j)):=dl1 fun _ _ _ _ _ _ _ q=>sub_int q
theorem Q1:O7 X (binaryOp .Mult) (rI cw7 fun i j=> .int (i*j)):=opI fun _ _ _ _ _ _ _ hc q=>mul_int q hc.ok
theorem ce2:O7 X (binaryOp .FloorDiv) (rI dy1 fun i j=> .int (i/j)):=opI fun i j _ _ _ _ _ hc q=>by
 have h1:(0:Int) < j:=hc.1;have h2:j < 1073741824:=hc.2;exact floordiv_int (by omega) (by rw[ev7 i (by omega)];exact q) (.inl (PyProof.noPylong_small (by omega)))
theorem E4:O7 X (binaryOp .Mod) (rI (fun _ j=>0 < j) fun i j=> .int (i%j)):=opI fun i j _ _ _ _ _ hc q=>by
 have h1:(0:Int) < j:=hc;exact mod_int' (by omega) (by rw[Int.fmod_eq_emod_of_nonneg i (by omega)];exact q)
theorem cn4:O7 X (binaryOp .Pow) (rI dl2 fun i j=> .int (i^j.toNat)):=opI fun _ _ _ _ _ _ _ hc q=>pow_int_small hc.1 hc.2.1 hc.2.2 q
theorem unI {f:Value->Sem Value}{g:Int->Int}
   (rule:∀(i:Int) (t:Tok) (s:Shared) (Q:Value->Shared->Prop) (E:Value->Shared->Prop),Q (.int (g i) s.toks) {s with toks:=s.toks+1}->wpAny (model X.prog X.w) X.A (f (.int i t)) Q E s):
   UnR X f (rU fun i=> .int (g i)):=by
 intro pins s σ H x v Q I rx h;obtain ⟨i,rfl,q⟩:=h;obtain ⟨t,rfl⟩:=rx;exact rule i t s _ _ ⟨.int (g i),H,I.tok _,⟨_,rfl⟩,q⟩
theorem dl3:UnR X (unaryOp .USub) (rU fun i=> .int (-i)):=unI fun _ _ _ _ _ q=>neg_int q
end
def cw8:V->V->Bool
 | .non,.non=>true| .non,.int _=>true| .int _,.non=>true| .non,.bl _=>true| .bl _,.non=>true| .non,.str _=>true| .str _,.non=>true
 | .int _,.int _=>true| .bl _,.bl _=>true| .str _,.str _=>true| .byt _,.byt _=>true
 | .int _,.str _=>true| .str _,.int _=>true| .bl _,.str _=>true| .str _,.bl _=>true
 |_,_=>false
def rEq:R2:=fun x y H Q=>cw8 x y=true/\Q (.bl (decide (x=y))) H
def rNe:R2:=fun x y H Q=>cw8 x y=true/\Q (.bl (!decide (x=y))) H
theorem ce3 {i j:Int}:decide (V.int i=V.int j)=(i==j):=by
 rw[en4];simp
theorem cn5 {i j:Bool}:decide (V.bl i=V.bl j)=(i==j):=by
 rw[en4];simp
theorem ce4 {i j:Str}:decide (V.str i=V.str j)=(i==j):=by
 rw[en4];simp
theorem ce5 {i j:Array UInt8}:decide (V.byt i=V.byt j)=(i.toList==j.toList):=by
 rw[en4];cases i;cases j;simp
section
variable {X:Cx} {a b c:Expr} {ta tb tc:TE} {pos:Pos}
theorem C1 {pins:List (Addr×Obj)}{σ:St}{H:Hp}{s:Shared}{Q:VK}{k k':Bool}(I:i4 X pins σ H s)(q:Q (.bl k) H)(e:k=k'):EP X pins σ Q (.bool k') s:=by
 subst e;exact ⟨.bl k,H,I,rfl,q⟩
theorem V1:O7 X (compareOp .Eq) rEq:=by
 intro pins s σ H x y v u Q I rx ry h;obtain ⟨hs,q⟩:=h
 cases x with
 |non=>
  cases rx
  cases y with
  |non=>cases ry;exact PySem.EqNone.eq_none_none (C1 I q (by simp))
  |bl j=>cases ry;exact PySem.EqNone.eq_none_bool (C1 I q (by simp))
  |int j=>obtain ⟨t',rfl⟩:=ry;exact PySem.EqNone.eq_none_int (C1 I q (by simp))
  |str j=>obtain ⟨t',rfl⟩:=ry;exact PySem.EqNone.eq_none_str (C1 I q (by simp))
  |_=>exact absurd (show false=true from hs) ee2
 |bl i=>
  cases rx
  cases y with
  |non=>cases ry;exact PySem.EqNone.eq_bool_none (C1 I q (by simp))
  |bl j=>cases ry;exact eq_bool (C1 I q cn5)
  |str j=>obtain ⟨t',rfl⟩:=ry;exact PySem.EqMixed.eq_bool_str (C1 I q (by simp))
  |_=>exact absurd (show false=true from hs) ee2
 |int i=>
  obtain ⟨t,rfl⟩:=rx
  cases y with
  |non=>cases ry;exact PySem.EqNone.eq_int_none (C1 I q (by simp))
  |int j=>obtain ⟨t',rfl⟩:=ry;exact eq_int (C1 I q ce3)
  |str j=>obtain ⟨t',rfl⟩:=ry;exact PySem.EqMixed.eq_int_str (C1 I q (by simp))
  |_=>exact absurd (show false=true from hs) ee2
 |str i=>
  obtain ⟨t,rfl⟩:=rx
  cases y with
  |non=>cases ry;exact PySem.EqNone.eq_str_none (C1 I q (by simp))
  |bl j=>cases ry;exact PySem.EqMixed.eq_str_bool (C1 I q (by simp))
  |int j=>obtain ⟨t',rfl⟩:=ry;exact PySem.EqMixed.eq_str_int (C1 I q (by simp))
  |str j=>obtain ⟨t',rfl⟩:=ry;exact eq_str (C1 I q ce4)
  |_=>exact absurd (show false=true from hs) ee2
 |byt i=>
  obtain ⟨t,rfl⟩:=rx
  cases y with
  |byt j=>obtain ⟨t',rfl⟩:=ry;exact PySem.W.eq_bytes (C1 I q ce5)
  |_=>exact absurd (show false=true from hs) ee2
 |_=>cases y<;>exact absurd (show false=true from hs) ee2
theorem bh1:O7 X (compareOp .NotEq) rNe:=by
 intro pins s σ H x y v u Q I rx ry h;obtain ⟨hs,q⟩:=h
 cases x with
 |non=>
  cases rx
  cases y with
  |non=>cases ry;exact PySem.EqNone.ne_none_none (C1 I q (by simp))
  |bl j=>cases ry;exact PySem.EqNone.ne_none_bool (C1 I q (by simp))
  |int j=>obtain ⟨t',rfl⟩:=ry;exact PySem.EqNone.ne_none_int (C1 I q (by simp))
  |str j=>obtain ⟨t',rfl⟩:=ry;exact PySem.EqNone.ne_none_str (C1 I q (by simp))
  |_=>exact absurd (show false=true from hs) ee2
 |bl i=>
  cases rx
  cases y with
  |non=>cases ry;exact PySem.EqNone.ne_bool_none (C1 I q (by simp))
  |bl j=>cases ry;exact ne_bool (C1 I q (congrArg not cn5))
  |str j=>obtain ⟨t',rfl⟩:=ry;exact PySem.EqMixed.ne_bool_str (C1 I q (by simp))
  |_=>exact absurd (show false=true from hs) ee2
 |int i=>
  obtain ⟨t,rfl⟩:=rx
  cases y with
  |non=>cases ry;exact PySem.EqNone.ne_int_none (C1 I q (by simp))
  |int j=>obtain ⟨t',rfl⟩:=ry;exact ne_int (C1 I q (congrArg not ce3))
  |str j=>obtain ⟨t',rfl⟩:=ry;exact PySem.EqMixed.ne_int_str (C1 I q (by simp))
  |_=>exact absurd (show false=true from hs) ee2
 |str i=>
  obtain ⟨t,rfl⟩:=rx
  cases y with
  |non=>cases ry;exact PySem.EqNone.ne_str_none (C1 I q (by simp))
  |bl j=>cases ry;exact PySem.EqMixed.ne_str_bool (C1 I q (by simp))
  |int j=>obtain ⟨t',rfl⟩:=ry;exact PySem.EqMixed.ne_str_int (C1 I q (by simp))
  |str j=>obtain ⟨t',rfl⟩:=ry;exact ne_str (C1 I q (congrArg not ce4))
  |_=>exact absurd (show false=true from hs) ee2
 |byt i=>
  obtain ⟨t,rfl⟩:=rx
  cases y with
  |byt j=>obtain ⟨t',rfl⟩:=ry;exact PySem.W.ne_bytes (C1 I q (congrArg not ce5))
  |_=>exact absurd (show false=true from hs) ee2
 |_=>cases y<;>exact absurd (show false=true from hs) ee2
theorem bh2:O7 X (compareOp .Lt) (rI0 fun i j=> .bl (decide (i < j))):=ci7 fun _ _ _ _ _ _ _ q=>lt_int q
theorem ci8:O7 X (compareOp .LtE) (rI0 fun i j=> .bl (decide (i<=j))):=ci7 fun _ _ _ _ _ _ _ q=>le_int q
theorem ba4:O7 X (compareOp .Gt) (rI0 fun i j=> .bl (decide (j < i))):=ci7 fun _ _ _ _ _ _ _ q=>gt_int q
theorem ci9:O7 X (compareOp .GtE) (rI0 fun i j=> .bl (decide (j<=i))):=ci7 fun _ _ _ _ _ _ _ q=>ge_int q
theorem dl4:O7 X (compareOp .Is) (fun x y H Q=>y= .non/\Q (.bl (decide (x= .non))) H):=by
 intro pins s σ H x y v u Q I rx ry h;obtain ⟨rfl,q⟩:=h;cases ry;refine is_none_gen (C1 I q ?_)
 cases x<;>first
   |(cases rx;rfl)
   |(obtain ⟨t,rfl⟩:=rx;rfl)
theorem n0 (b:Expr){op:CmpOp}(h:op≠.In:=by decide)(h2:op≠.NotIn:=by decide):behindInMarks op b=false:=by
 have e1:(op==CmpOp.In)=false:=by cases op<;>first|rfl|exact absurd rfl h
 have e2:(op==CmpOp.NotIn)=false:=by cases op<;>first|rfl|exact absurd rfl h2
 cases b<;>simp [behindInMarks,e1,e2]
theorem ac6 {op:CmpOp}{r:R2}(ho:O7 X (compareOp op) r)(ha:PE X a ta)(hb:PE X b tb)(hm:behindInMarks op b=false):PE X (.Compare a [op] [b] pos) (tOp r ta tb):=by
 intro pins s σ H Q I h;exact wpAny_Compare1 (cw6 ha hb I h fun v u s2 x y H2 I2 rx ry q=>ho pins s2 σ H2 x y v u Q I2 rx ry q) hm
def ds2 (t:TE):TT:=fun σ H Q=>t σ H fun x H'=>∃k,x= .bl k/\Q k H'
theorem m7 {op:CmpOp}{r:R2}(ho:O7 X (compareOp op) r)(ha:PE X a ta)(hb:PE X b tb)(hm:behindInMarks op b=false):PT X (.Compare a [op] [b] pos) (ds2 (tOp r ta tb)):=by
 intro pins s σ H Q I h
 refine wpAny_isTrue_Compare1 (t7 (ha pins s σ H _ I h) fun v s1 ⟨x,H1,I1,r1,q1⟩=>t7 (hb pins s1 σ H1 _ I1 q1) fun u s2 ⟨y,H2,I2,r2,q2⟩=>
   t7 (ho pins s2 σ H2 x y v u _ I2 r1 r2 q2) fun c s3 ⟨z,H3,I3,r3,k,e,q3⟩=> ?_) hm
 subst e;cases r3;exact wpAny_truthy_bool ⟨H3,I3,q3⟩
theorem bu6:(sizeLine:Nat) < 2^63:=by rw[sizeLine_eq];decide
theorem ak7 {x:V}{us:List Value}(r:l8 [x] us):∃u,us=[u]/\o7 x u:=by
 cases r with
 |cons r1 r2=>cases r2;exact ⟨_,rfl,r1⟩
theorem bt6 {x y:V}{us:List Value}(r:l8 [x,y] us):∃u w',us=[u,w']/\o7 x u/\o7 y w':=by
 cases r with
 |cons r1 r2=>
  cases r2 with
  |cons r3 r4=>cases r4;exact ⟨_,_,rfl,r1,r3⟩
theorem cn6 (hc:X.calm=true):W9 X (.builtin "max") (fun xs H Q=>∃i j,xs=[.int i,.int j]/\Q (.int (if j > i then j else i)) H):=by
 intro pins s σ H xs us Q I r h;obtain ⟨i,j,rfl,q⟩:=h;obtain ⟨u,w',rfl,⟨t,rfl⟩,⟨t',rfl⟩⟩:=bt6 r
 refine max_two_ints (I.ok.hd hc) fun h' tk k=>⟨_,H,I.kept k,?_,q⟩
 by_cases hj:j > i
 · rw[if_pos hj,if_pos hj];exact ⟨_,rfl⟩
 · rw[if_neg hj,if_neg hj];exact ⟨_,rfl⟩
theorem cn7 (hc:X.calm=true):W9 X (.builtin "min") (fun xs H Q=>∃i j,xs=[.int i,.int j]/\Q (.int (if j < i then j else i)) H):=by
 intro pins s σ H xs us Q I r h;obtain ⟨i,j,rfl,q⟩:=h;obtain ⟨u,w',rfl,⟨t,rfl⟩,⟨t',rfl⟩⟩:=bt6 r
 refine min_two_ints (I.ok.hd hc) fun h' tk k=>⟨_,H,I.kept k,?_,q⟩
 by_cases hj:j < i
 · rw[if_pos hj,if_pos hj];exact ⟨_,rfl⟩
 · rw[if_neg hj,if_neg hj];exact ⟨_,rfl⟩
end
end L2
namespace L2
open PySem PySem.Spec PyProof.Rows
structure cw9 (h:Heap)(x dx C:Addr)(mA:Str->Option Value):Prop where
 obj:h.get? x=some (PySem.W.instObj C dx)
 ns:h.Ns1 dx mA
 ne:dx≠x
theorem cn8 {h:Heap}{dx:Addr}{mA:Str->Option Value}(n:h.Ns1 dx mA):∃od,h.get? dx=some od/\∀name,PySem.W.lookIn name od=some (mA name):=by
 obtain ⟨o,es,ep,ho,hd,hk,_,hm⟩:=n;refine ⟨o,ho,fun name=> ?_⟩;have e:=hm name;unfold nsFind findBy at e;rw[<-Array.find?_toList] at e;unfold PySem.W.lookIn;rw[hd]
 dsimp only
 split
 · rename_i y q;rw[q] at e;exact congrArg some e
 · rename_i q;rw[q] at e
   have a:es.toList.any (·.refKey)=false:=by
     rw[List.any_eq_false];intro y hy;obtain ⟨z,t,hkey⟩:=hk y (Array.mem_toList_iff.mp hy);simp [DictEntry.refKey,hkey]
   have a':¬es.toList.any (·.refKey)=true:=by rw[a];exact ee2
   rw[if_neg a'];exact congrArg some e
theorem cw9.look {h:Heap}{x dx C:Addr}{mA:Str->Option Value}(I:cw9 h x dx C mA):∃od,PySem.W.InstAt h x (PySem.W.instObj C dx) C (some od)/\∀name,PySem.W.lookIn name od=some (mA name):=
 let ⟨od,ho,hl⟩:=cn8 I.ns
 ⟨od,⟨I.obj,rfl,rfl,ho⟩,hl⟩
theorem ac3.some_of {v:V}{o:Option Value}(r:ac3 (some v) o):∃u,o=some u/\o7 v u:=by
 cases o with
 |none=>exact (show False from r).elim
 |some u=>exact ⟨u,rfl,r⟩
section
variable {P:Program} {w:World} {H H':Hp} {h h':Heap} {a C dx:Addr} {fs fs':List (Str×V)}
theorem dd6 (hok:K5 P w H h)(e:H a=some (.ins C dx fs)):∃mA,cw9 h a dx C mA/\(∀f,ac3 (fs.lookup f) (mA f))/\PySem.Within mA (fs.map (·.1))/\fs.length<=1000/\H dx=some (.own a):=by
 obtain ⟨d,z,ne,ob,mA,n,r,q⟩:=(show B0 P w H h a (.ins C dx fs) from hok a _ e);exact ⟨mA,⟨ob,n,ne⟩,r,q,z,d⟩
end
structure Cls (K:PySem.W.Frag)(C:Addr):Prop where
 pg:PySem.W.plainGet K C Str.empty=true
 hd:PySem.W.hasDictIn K C=true
 po:PySem.W.plainOver K C=true
 sa:PySem.W.findIn K (.ref C) "__setattr__"=some (some (.builtin "object.__setattr__"))
theorem Cls.get {K:PySem.W.Frag}{C:Addr}(c:Cls K C)(f:Str):PySem.W.plainGet K C f=true:=c.pg
section
variable {X:Cx} {pins:List (Addr×Obj)} {σ:St} {H:Hp} {s:Shared} {A:Around} {E:Value->Shared->Prop} {Q:Value->Shared->Prop} {c:Value} {b:Bool}
inductive X8 (K:PySem.W.Frag)(H:Hp):V->Value->Prop where
 |non:X8 K H .non (.type "NoneType")
 |bl (x:Bool):X8 K H (.bl x) (.type "bool")
 |int (i:Int):X8 K H (.int i) (.type "int")
 |str (x:Str):X8 K H (.str x) (.type "str")
 |flt (x:UInt64):X8 K H (.flt x) (.type "float")
 |lst {a:Addr} {xs:List V} (e:H a=some (.lst xs)):X8 K H (.ref a) (.type "list")
 |frz {a:Addr} {o:Obj} {xs:List V} (e:H a=some (.frz o (.lst xs))):X8 K H (.ref a) (.type "list")
 |tup {a:Addr} {xs:List V} (e:H a=some (.tup xs)):X8 K H (.ref a) (.type "tuple")
 |dK {a:Addr} {kvs:List (w6×V)} (e:H a=some (.dK kvs)):X8 K H (.ref a) (.type "dict")
 |dT {a:Addr} {kvs:List (List w6×V)} (e:H a=some (.dT kvs)):X8 K H (.ref a) (.type "dict")
 |ins {a C dx:Addr} {fs:List (Str×V)} (e:H a=some (.ins C dx fs)) (cl:Cls K C) (ha:PySem.W.findIn K (.ref C) "__class__"=some (some (.builtin "object.__class__")))
     (hn:PySem.W.specialIn K (.builtin "object.__class__") "__get__"=some (some (.builtin "getset_descriptor.__get__"))) (htk:PySem.W.takesIn K (.builtin "object.__class__")=some true)
     (hm:PySem.W.mroIn K C (.type "object")=some true):X8 K H (.ref a) (.ref C)
theorem cn9 {x:V}{u t:Value}(I:i4 X pins σ H s)(rx:o7 x u)(ty:X8 X.K H x t)(e:PySem.W.kitOne X.K t c=some b)(h:∀tk,Q (.bool b) {s with toks:=tk}):
   wpAny (model X.prog X.w) A (call (.builtin "isinstance") [u,c]) Q E s:=by
 cases ty with
 |non=>cases (show u=Value.none from rx);exact PySem.W.kia_one PySem.W.kitx_none I.kIn True.intro e (fun z=>nomatch z) h
 |bl y=>cases (show u=Value.bool y from rx);exact PySem.W.kia_one PySem.W.kitx_bool I.kIn True.intro e (fun z=>nomatch z) h
 |int i=>obtain ⟨t,q⟩:=(show ∃t,u=Value.int i t from rx);cases q;exact PySem.W.kia_one PySem.W.kitx_int I.kIn True.intro e (fun z=>nomatch z) h
 |str y=>obtain ⟨t,q⟩:=(show ∃t,u=Value.str y t from rx);cases q;exact PySem.W.kia_one PySem.W.kitx_str I.kIn True.intro e (fun z=>nomatch z) h
 |flt y=>obtain ⟨t,q⟩:=(show ∃t,u=Value.float y t from rx);cases q;exact PySem.W.kia_one PySem.W.kitx_float I.kIn True.intro e (fun z=>nomatch z) h
 |@lst a xs ea=>
  cases (show u=Value.ref a from rx);obtain ⟨_,_,n,_,h1⟩:=(show B0 X.prog X.w H s.heap a (.lst xs) from I.hok a _ ea);exact PySem.W.kia_one PySem.W.kitx_list I.kIn ⟨_,h1,rfl⟩ e (fun z=>nomatch z) h
 |@frz a ob xs ea=>
  cases (show u=Value.ref a from rx);obtain ⟨_,_,_,n,_,h1⟩:=(show B0 X.prog X.w H s.heap a (.frz ob (.lst xs)) from I.hok a _ ea);exact PySem.W.kia_one PySem.W.kitx_list I.kIn ⟨_,h1,rfl⟩ e (fun z=>nomatch z) h
 |@tup a xs ea=>
  cases (show u=Value.ref a from rx);obtain ⟨_,_,_,p⟩:=(show B0 X.prog X.w H s.heap a (.tup xs) from I.hok a _ ea);obtain ⟨o,h1,h2,_⟩:=p;exact PySem.W.kia_one PySem.W.kitx_tuple I.kIn ⟨o,h1,h2⟩ e (fun z=>nomatch z) h
 |@dK a kvs ea=>
  cases (show u=Value.ref a from rx);obtain ⟨_,_,vs,_,p⟩:=(show B0 X.prog X.w H s.heap a (.dK kvs) from I.hok a _ ea);obtain ⟨o,es,ep,h1,h2,_⟩:=p;exact PySem.W.kia_one PySem.W.kitx_dict I.kIn ⟨o,h1,h2.1⟩ e (fun z=>nomatch z) h
 |@dT a kvs ea=>
  cases (show u=Value.ref a from rx);obtain ⟨_,_,xs,_,o,es,ep,h1,h2,_⟩:=(show B0 X.prog X.w H s.heap a (.dT kvs) from I.hok a _ ea);exact PySem.W.kia_one PySem.W.kitx_dict I.kIn ⟨o,h1,h2.1⟩ e (fun z=>nomatch z) h
 |@ins a C dx fs ea cl ha hn htk hm=>
  cases (show u=Value.ref a from rx);obtain ⟨mA,O,_⟩:=dd6 I.hok ea;obtain ⟨od,J,_⟩:=O.look;exact PySem.W.kia_one (PySem.W.kitx_own (cl.get _) cl.hd ha hn htk hm) I.kIn J e (fun z=>nomatch z) h
end
end L2
namespace L2
open PySem PySem.Spec PyProof.Rows
structure n6 (k:Nat)(A:Around):Prop where
 hd:A.handled=none
 dp:A.depth+3*k+5 < recursionLimit
 un:A.units+16*k+200 < cLine
 gd:A.guards=some []
theorem n6.mono {j k:Nat}{A:Around}(r:n6 k A)(h:j<=k):n6 j A:=⟨r.hd,by have:=r.dp;omega,by have:=r.un;omega,r.gd⟩
theorem n6.deeper {k:Nat}{A:Around}(r:n6 (k+1) A)(env:Env):n6 k (A.deeper env):=
 ⟨r.hd,by have:=r.dp;show A.depth+1+3*k+5 < _;omega,by have:=r.un;show A.units+3+16*k+200 < _;omega,r.gd⟩
theorem n6.depth {k:Nat}{A:Around}(r:n6 k A):A.depth < recursionLimit:=by have:=r.dp;omega
theorem n6.units {k:Nat}{A:Around}(r:n6 k A):A.units+64 < cLine:=by have:=r.un;omega
def dl6:TA:=fun _ H Q=>Q [] H
def dc1 (ta:TE)(tr:TA):TA:=fun σ H Q=>ta σ H fun x H1=>tr σ H1 fun xs H2=>Q (x::xs) H2
section
variable {X:Cx} {e:Expr} {es:List Expr} {te:TE} {t:TA} {pos:Pos}
theorem c6:PA X [] dl6:=fun _ _ _ _ H Q I h=>Calls.spliced_nil ⟨[],H,I,.nil,h⟩
theorem c5 (ha:PE X e te)(hr:PA X es t)(hs:starEach (e::es) X.env=(false,eval e X.env)::starEach es X.env:=by rfl):PA X (e::es) (dc1 te t):=by
 intro pos pins s σ H Q I h;rw[hs];show wpAny _ _ (spliced ((false,eval e X.env)::backTo pos (starEach es X.env))) _ _ s;refine Calls.spliced_cons (t7 (ha pins s σ H _ I h) fun u s1 ⟨x,H1,I1,r1,q1⟩=> ?_)
 exact t7 (hr pos pins s1 σ H1 _ I1 q1) fun us s2 ⟨xs,H2,I2,r2,q2⟩=>⟨x::xs,H2,I2,.cons r1 r2,q2⟩
def dy2 (t:TA):TE:=fun σ H Q=>t σ H fun xs H1=>xs.length<=sizeLine/\∀p,H1 p=none->Q (.ref p) (c9 H1 p (.tup xs))
def dy3 (t:TA):TE:=fun σ H Q=>t σ H fun xs H1=>xs.length<=sizeLine/\∀p,H1 p=none->Q (.ref p) (c9 H1 p (.lst xs))
theorem ah8 {x1}(h:PA X es t):PE X (.Tuple es x1 pos) (dy2 t):=by
 intro pins s σ H Q I hq;refine wpAny_Tuple_spliced (t7 (h pos pins s σ H _ I hq) fun us s1 ⟨xs,H1,I1,r,z,q⟩=>⟨by rw[<-r.length];exact z,?_⟩);have hf:H1 s1.heap.objs.size=none:=I1.hok.fresh (ec0 _);refine ⟨.ref s1.heap.objs.size,c9 H1 s1.heap.objs.size (.tup xs),I1.laid (t':=s1.toks) (fun b u e=>Heap.get?_push_of_some _ e) (ec0 _) ?_,rfl,q _ hf⟩;exact ⟨z,us,r,⟨_,Heap.get?_push_size _ rfl,rfl,_,rfl⟩⟩
theorem o6 (h:PA X es t):PE X (.List es pos) (dy3 t):=by
 intro pins s σ H Q I hq;refine wpAny_List_spliced (t7 (h pos pins s σ H _ I hq) fun us s1 ⟨xs,H1,I1,r,z,q⟩=>⟨by rw[<-r.length];exact z,?_⟩);have hf:H1 s1.heap.objs.size=none:=I1.hok.fresh (ec0 _);refine ⟨.ref s1.heap.objs.size,c9 H1 s1.heap.objs.size (.lst xs),I1.laid (t':=s1.toks) (fun b u e=>Heap.get?_push_of_some _ e) (ec0 _) ?_,rfl,q _ hf⟩;exact ⟨z,us,0,r,Heap.get?_push_size _ rfl⟩
end
abbrev Sp:=List V->Hp->VK->XK->Prop
abbrev CXT:=List Env->Hp->Shared->XK->Value->Shared->Prop
structure cj0 (P:Program)(w:World)(K:PySem.W.Frag)(mg:Str->Option Value)(base:Heap)(A:Around)(outer:List Env)(s:Shared)(H:Hp):Prop where
 frames:A.frames=some outer
 mod:Mod K mg base
 bs:∀b o,base.get? b=some o->s.heap.get? b=some o/\H b=none
 bsz:base.objs.size<=s.heap.objs.size
 funs:s.heap.FunFrames base outer
 frf:∀b∈J8 outer,H b=none
 hok:K5 P w H s.heap
 bare:AllBare s.gens
def CE (outer:List Env)(P:Program)(w:World)(H:Hp)(s:Shared)(Q:VK)(u:Value)(s':Shared):Prop:=
 ∃v H',s'.os=s.os/\AllBare s'.gens/\Un (J8 outer) [] H H' s.heap s'.heap/\K5 P w H' s'.heap/\o7 v u/\Q v H'
def CR (CX:CXT)(outer:List Env)(P:Program)(w:World)(H:Hp)(s:Shared)(Q:VK)(E:XK)(r:Result)(s':Shared):Prop:=
 match r with
 | .ok (.ret u)=>CE outer P w H s Q u s'
 | .ok _=>False
 | .error e=>CX outer H s E e s'
structure o8 (P:Program)(w:World)(K:PySem.W.Frag)(mg:Str->Option Value)(base:Heap)(CX:CXT)(k:Nat)(f:Addr)(fd:FuncData)(ps:List Str)(sp:Sp):Prop where
 len:∀vs H Q E,sp vs H Q E->vs.length=ps.length
 run:∀(A:Around) (outer:List Env) (s:Shared) (H:Hp) (args:Args) (us:List Value) (vs:List V) (Q:VK) (E:XK),n6 k A->cj0 P w K mg base A outer s H->BindsTo s fd args (ps.zip us)->l8 vs us->sp vs H Q E->
   codeAny (model P w) A (.call (.ref f) args) (CR CX outer P w H s Q E) s
section
variable {X:Cx} {pins:List (Addr×Obj)} {σ:St} {H:Hp} {s s':Shared}
theorem i4.env0 (I:i4 X pins σ H s):cj0 X.prog X.w X.K X.mg X.base X.A X.stack s H:=
 ⟨I.ok.frames,I.ok.mod,I.bs,ed3 I.ok.bsz I.sz,I.stack,I.stkFree,I.hok,I.bare⟩
theorem i4.after {Q:VK}{u:Value}(I:i4 X pins σ H s)(h:CE X.stack X.prog X.w H s Q u s'):EP X pins σ Q u s':=by
 obtain ⟨v,H',os,bare,un,hok,r,q⟩:=h;obtain ⟨hh,g,d,t,os'⟩:=s';obtain rfl:os'=s.os:=os;exact ⟨v,H',I.call (h':=hh) (g':=g) (d':=d) (t':=t) (ch:=[]) un hok bare (fun b z=>absurd z (by simp)),r,q⟩
end
def bh3 (sp:Sp)(dvs:List V)(E:XK)(t:TA):TE:=fun σ H Q=>t σ H fun vs H1=>sp (vs++dvs) H1 Q E
def ag7 (K:PySem.W.Frag)(fd:FuncData)(ps:List Str)(ds:List Value):Prop:=
 ∀(s:Shared) (us:List Value),K.In s.heap->(us++ds).length=ps.length->BindsTo s fd ⟨us,[]⟩ (ps.zip (us++ds))
theorem ag7.all {K:PySem.W.Frag}{fd:FuncData}{ps:List Str}(h:∀us:List Value,us.length=ps.length->bindArgs fd ⟨us,[]⟩=pure (ps.zip us)):ag7 K fd ps []:=fun s us _ hl=>by
 rw[ee3] at hl ⊢;exact .of_eq (h us hl)
def aw5 (CX:CXT)(X:Cx)(E:XK):Prop:=∀(pins:List (Addr×Obj)) (σ:St) (H:Hp) (s:Shared) (e:Value) (s':Shared),i4 X pins σ H s->CX X.stack H s E e s'->X.xe e s'
section
variable {X:Cx} {CX:CXT} {k:Nat} {f C:Addr} {fd:FuncData} {ps:List Str} {sp:Sp} {dvs:List V} {ds:List Value} {E:XK} {x m:Str} {p pos apos:Pos} {e o:Expr} {es:List Expr} {ta:TE} {t:TA}
theorem dl7 {pins:List (Addr×Obj)}{σ:St}{H:Hp}{s:Shared}{Q:VK}{us:List Value}{vs:List V}(F:o8 X.prog X.w X.K X.mg X.base CX k f fd ps sp)(hr:n6 k X.A)(hb:ag7 X.K fd ps ds)(hd:l8 dvs ds)(hx:aw5 CX X E)
   (I:i4 X pins σ H s) (r:l8 vs us) (h:sp (vs++dvs) H Q E):wpAny (model X.prog X.w) X.A (call (.ref f) us) (EP X pins σ Q) X.xe s:=by
 have r2:l8 (vs++dvs) (us++ds):=r.append hd
 have hl:(us++ds).length=ps.length:=by rw[<-r2.length];exact F.len _ _ _ _ h
 refine wpAny_call (codeAny_mono (F.run X.A X.stack s H ⟨us,[]⟩ (us++ds) (vs++dvs) Q E hr I.env0 (hb s us I.kIn hl) r2 h) fun r s' hq=> ?_)
 cases r with
 |error e=>exact hx pins σ H s e s' I hq
 |ok fl=>
  cases fl with
  |ret u=>exact I.after hq
  |next=>exact False.elim hq
  |brk=>exact False.elim hq
  |cont=>exact False.elim hq
theorem ce6 (F:o8 X.prog X.w X.K X.mg X.base CX k f fd ps sp)(hr:n6 k X.A)(hg:Gl X x)(hm:X.mg x=some (.ref f))(hk:PySem.W.keepIn X.K (.ref f)=true)(hb:ag7 X.K fd ps ds)(hd:l8 dvs ds)(hx:aw5 CX X E)
   (ha:PA X (e::es) t) (hdb:(x==("__debug__":Str))=false:=by decide) (he:starEach (e::es) X.env=(false,eval e X.env)::starEach es X.env:=by rfl) (hpl:(backTo pos (starEach es X.env)).any (·.1)=false:=by rfl):
   PE X (.Call (.Name x p) (e::es) [] pos) (bh3 sp dvs E t):=by
 intro pins s σ H Q I h;refine wpAny_Call_Name_kw (an5 I hg hm ?_ hdb);refine PySem.W.callWith_K (h₀:=X.base) I.ok.mod.kin hk (t7 (ha pos pins s σ H _ I h) fun us s1 ⟨vs,H1,I1,r,q⟩=>⟨I1.kIn,?_⟩) he hpl;exact dl7 F hr hb hd hx I1 r q
end
structure m8 (N P:List Str)(sc:Scope):Prop where
 kind:sc.kind= .function
 co:sc.isCoroutine=false
 gen:sc.isGenerator=false
 nd:N.Nodup
 pre:N.take P.length=P
 par:∀x∈P,sc.names.lookup x=some .local\/sc.names.lookup x=some .cell
 nofree:∀y∈sc.names,y.2≠.free
theorem bp0 {kindOf:Str->Option NameKind}{x:Str}:∀{binds:List (Str×Value)} {m:Str->Option Value},(∀v,(x,v)∉binds)->bindL kindOf binds m x=m x
 |[],_,_=>rfl
 |(n,v)::r,m,h=>by
  unfold bindL;rw[bp0 fun w hw=>h w (ec7 _ hw)]
  split
  · have:x≠n:=by rintro rfl;exact h v ec5
    simp [this]
  · rfl
theorem bp1 {kindOf:Str->Option NameKind}{x:Str}:∀{binds:List (Str×Value)} {m:Str->Option Value},(∀v,(x,v)∉binds)->bindC kindOf binds m x=m x
 |[],_,_=>rfl
 |(n,v)::r,m,h=>by
  unfold bindC;rw[bp1 fun w hw=>h w (ec7 _ hw)]
  split
  · rfl
  · have:x≠n:=by rintro rfl;exact h v ec5
    simp [this]
theorem bp2 {kindOf:Str->Option NameKind}{x:Str}{v:Value}:∀{P:List Str} {vs:List Value} {i:Nat} {m:Str->Option Value},P.Nodup->P[i]? =some x->vs[i]? =some v->kindOf x=some .local->
   bindL kindOf (P.zip vs) m x=some v
 |[],_,_,_,_,h,_,_=>by simp at h
 |_::_,[],_,_,_,_,h,_=>by simp at h
 |p::P,w::vs,0,m,nd,h1,h2,hk=>by
  simp at h1 h2;subst h1;subst h2;show bindL kindOf ((p,w)::P.zip vs) m p=_;unfold bindL;rw[bp0 fun v hv=>(eg5.mp nd).1 (ey4 hv).1,if_pos hk];simp
 |p::P,w::vs,i+1,m,nd,h1,h2,hk=>by
  show bindL kindOf ((p,w)::P.zip vs) m x=_;unfold bindL;exact bp2 (i:=i) (eg5.mp nd).2 (by simpa using h1) (by simpa using h2) hk
theorem bp3 {kindOf:Str->Option NameKind}{x:Str}{v:Value}:∀{P:List Str} {vs:List Value} {i:Nat} {m:Str->Option Value},P.Nodup->P[i]? =some x->vs[i]? =some v->kindOf x≠some .local->
   bindC kindOf (P.zip vs) m x=some v
 |[],_,_,_,_,h,_,_=>by simp at h
 |_::_,[],_,_,_,_,h,_=>by simp at h
 |p::P,w::vs,0,m,nd,h1,h2,hk=>by
  simp at h1 h2;subst h1;subst h2;show bindC kindOf ((p,w)::P.zip vs) m p=_;unfold bindC;rw[bp1 fun v hv=>(eg5.mp nd).1 (ey4 hv).1,if_neg hk];simp
 |p::P,w::vs,i+1,m,nd,h1,h2,hk=>by
  show bindC kindOf ((p,w)::P.zip vs) m x=_;unfold bindC;exact bp3 (i:=i) (eg5.mp nd).2 (by simpa using h1) (by simpa using h2) hk
def ae2 (N:List Str)(vs:List V):St:=vs.map some++ed6 (N.length - vs.length) none
def y7 (CX:CXT)(P:Program)(w:World)(K:PySem.W.Frag)(mg:Str->Option Value)(base:Heap)(N:List Str)(qual:Str)(scope:Scope)(f:Addr)(cd:Value)(A:Around)(outer:List Env)(s:Shared)(H:Hp)(E:XK):Cx where
 prog:=P
 w:=w
 K:=K
 mg:=mg
 base:=base
 A:=A.deeper (envOfC qual scope s.heap.objs.size f cd)
 N:=N
 s₀:=s
 H₀:=H
 env:=envOfC qual scope s.heap.objs.size f cd
 outer:=outer
 stack:=envOfC qual scope s.heap.objs.size f cd::outer
 ex:=[]
 calm:=true
 fn:=fun _=>true
 pn:=[]
 xe:=fun e s'=>wpAny (model P w) (A.deeper (envOfC qual scope s.heap.objs.size f cd)) (leaving (envOfC qual scope s.heap.objs.size f cd) e) (fun _ s''=>CX outer H s E e s'') (fun e' s''=>CX outer H s E e' s'') s'
theorem bu7 {sc:Scope}{n:Nat}{x:Str}(h:sc.names.lookup x=some .cell):∃c,(cellsFrom n sc.names []).lookup x=some c:=by
 have q:=PySem.W.cellsFrom_some sc.names n [] (.inl h);exact es4.mp q
theorem co0 {CX:CXT}{P:Program}{w:World}{K:PySem.W.Frag}{mg:Str->Option Value}{base:Heap}{N ps:List Str}{qual:Str}{scope:Scope}{f:Addr}{cd:Value}{A:Around}{outer:List Env}{s s1:Shared}{H:Hp}{E:XK}{us:List Value}{vs:List V}
   (S:m8 N ps scope) (hd:A.handled=none) (e0:cj0 P w K mg base A outer s H) (hl:vs.length=ps.length) (r:l8 vs us)
   (x:InCallC s s.heap.objs.size (bindL (envOfC qual scope s.heap.objs.size f cd).kindOf (ps.zip us) fun _=>none) (cellsFrom (s.heap.objs.size+1) scope.names []) (bindC (envOfC qual scope s.heap.objs.size f cd).kindOf (ps.zip us) fun _=>none) s1):
   i4 (y7 CX P w K mg base N qual scope f cd A outer s H E) [] (ae2 N vs) H s1:=by
 have hpl:ps.length<=N.length:=by have:=congrArg et3 S.pre;rw[ee1] at this;omega
 obtain ⟨h1,tk,rfl,hk⟩:=x.done
 have noA:∀b:Addr,b∉(y7 CX P w K mg base N qual scope f cd A outer s H E).ex:=fun b z=>absurd (show b∈([]:List Addr) from z) (by simp)
 refine ⟨⟨e0.mod,S.kind,rfl,rfl,ec0 _,fun y z c h1 h2=> ?_,fun y hy=> ?_,fun y c _ h=> ?_,fun _=>hd,Around.frames_deeper e0.frames,.inr ⟨rfl,rfl⟩,fun b z=>absurd z (noA b),e0.bs,e0.bsz,fun b _ _=>noA b,fun b z=>absurd z (noA b),e0.funs,e0.frf⟩,
   rfl,e0.bare,Un.kept hk,⟨_,x.toInCall.ns,fun i y v h1 h2 h3=> ?_⟩,fun y c h=>⟨_,x.cell y c h⟩,e0.hok.fresh (ec0 _),fun y c h=> ?_,fun p hp=>absurd (show p∈([]:List (Addr×Obj)) from hp) (by simp),e0.hok.kept hk,?_⟩
 · exact name_of_addr x.apart (PySem.mem_of_lookup h1) (PySem.mem_of_lookup h2)
 · have hy:scope.names.lookup y=some .cell\/scope.names.lookup y=some .free:=hy
   rcases hy with hy|hy
   · exact bu7 hy
   · exact absurd rfl (S.nofree _ (PySem.mem_of_lookup hy))
 · exact ei1 (x.above y c (PySem.mem_of_lookup h))
 · have hi:i < vs.length:=by
     unfold ae2 at h2
     by_cases hi:i < vs.length
     · exact hi
     · rw[ee8 (by simpa using hi)] at h2;rw[ex8] at h2
       split at h2<;>cases h2
   have ha:vs[i]? =some v:=by
     unfold ae2 at h2;rw[ee4 (by simpa using hi),ec1] at h2
     cases e:vs[i]? with
     |none=>rw[e] at h2;cases h2
     |some a=>rw[e] at h2;cases h2;rfl
   obtain ⟨u,hu,rv⟩:=r.get ha
   have hp:ps[i]? =some y:=by
     rw[<-S.pre,ei7 (by omega)];exact h1
   have ndP:ps.Nodup:=by rw[<-S.pre];exact S.nd.sublist (List.take_sublist _ _)
   refine ⟨u,rv,?_⟩
   rcases S.par y (ec8 hp) with k|k
   · exact .inl ⟨k,bp2 ndP hp hu k⟩
   · obtain ⟨c,e⟩:=bu7 (n:=s.heap.objs.size+1) k;refine .inr ⟨.inl k,c,e,?_⟩;have q:=x.cell y c e;rw[bp3 ndP hp hu (by show scope.names.lookup y≠_;rw[k];decide)] at q;exact q
 · exact e0.hok.fresh (ei1 (x.above y c (PySem.mem_of_lookup h)))
 · unfold ae2;show _=N.length;rw[ec6,eb7,el7];omega
theorem dc2 {CX:CXT}{P:Program}{w:World}{K:PySem.W.Frag}{mg:Str->Option Value}{base:Heap}{k:Nat}{f:Addr}{name qual:Str}{params:Arguments}{body:List Stmt}{scope:Scope}{dV kV doc pm cdv ct oc:Value}{an od:Option Addr}
   {osl:Array (Option Value)} {N ps:List Str} {sp:Sp} (lk:K.lookup f=some ⟨oc,od,.func (PySem.W.fnOf name qual params body scope dV kV doc pm an cdv ct),osl⟩) (hcd:PySem.W.codeIn K cdv qual=true) (S:m8 N ps scope)
   (len:∀vs H Q E,sp vs H Q E->vs.length=ps.length)
   (hbody:∀(A:Around) (outer:List Env) (s:Shared) (H:Hp) (vs:List V) (Q:VK) (E:XK),n6 k (A.deeper (envOfC qual scope s.heap.objs.size f cdv))->sp vs H Q E->
     ∃t,PSs (y7 CX P w K mg base N qual scope f cdv A outer s H E) body t/\t {nx:=fun _ H'=>Q .non H',rt:=Q} (ae2 N vs) H):
   o8 P w K mg base CX (k+1) f (PySem.W.fnOf name qual params body scope dV kV doc pm an cdv ct) ps sp:=by
 refine ⟨len,fun A outer s H args us vs Q E hr e0 hb r hsp=> ?_⟩;have hl:=len _ _ _ _ hsp
 have KX:K.In s.heap:=e0.mod.kin.keeps fun b o e=>(e0.bs b o e).1
 have lim:s.heap.NoLimit:=e0.mod.nolimit.keeps fun b o e=>(e0.bs b o e).1
 have hkind:∀y∈ps.zip us,scope.names.lookup y.1=some .local\/(scope.names.lookup y.1=some .cell/\((cellsFrom (s.heap.objs.size+1) scope.names []).lookup y.1).isSome=true):=fun ⟨n,v⟩ hy=>by
   rcases S.par n (ey4 hy).1 with q|q
   · exact .inl q
   · exact .inr ⟨q,PySem.W.cellsFrom_some _ _ _ (.inl q)⟩
 refine codeAny_call_function hr.depth (KX _ _ lk) rfl S.co S.gen rfl (PySem.W.codeRec_of KX hcd) (hb _ _ _ _ ?_)
 refine wpAny_newFunctionEnv_cells S.kind hkind fun env he s1 x=> ?_
 subst he;refine ⟨lim.keeps x.toInCall.keep,codeAny_func ?_⟩;obtain ⟨t,ht,hq⟩:=hbody A outer s H vs Q E (hr.deeper _) hsp;have I:i4 (y7 CX P w K mg base N qual scope f cdv A outer s H E) [] (ae2 N vs) H s1:=co0 S hr.hd e0 hl r x
 refine wpAny_mono (ht [] s1 (ae2 N vs) H _ I hq) (fun fl s' hs=> ?_) fun e s' hs=>hs
 have fin:∀{σ':St} {H':Hp} {v:V} {u:Value},i4 (y7 CX P w K mg base N qual scope f cdv A outer s H E) [] σ' H' s'->o7 v u->Q v H'->CE outer P w H s Q u s':=
   fun {σ' H' v u} J rv q=>⟨v,H',J.os,J.bare,J.base,J.hok,rv,q⟩
 cases fl with
 |ret u=>
  obtain ⟨v,σ',H',J,rv,q⟩:=hs;exact fin J rv q
 |next=>
  obtain ⟨σ',H',J,q⟩:=hs;exact fin (v:=V.non) (u:=Value.none) J rfl q
 |brk=>
  obtain ⟨_,_,_,q⟩:=hs;exact False.elim q
 |cont=>
  obtain ⟨_,_,_,q⟩:=hs;exact False.elim q
end L2
namespace L2
open PySem PySem.Spec PyProof.Rows
section
variable {X:Cx} {x:Str} {p pos:Pos} {e:Expr} {es:List Expr} {t:TA} {id T:String} {r:List V->Hp->VK->Prop}
def tCB (r:List V->Hp->VK->Prop)(t:TA):TE:=fun σ H Q=>t σ H fun vs H1=>r vs H1 Q
theorem V6 (hc:W9 X (.builtin id) r)(hg:Gl X x)(hm:X.mg x=none)(hv:bootBuiltins x=some (.builtin id))(ha:PA X (e::es) t)(hn:x≠"__name__":=by decide)(hdb:(x==("__debug__":Str))=false:=by decide)
   (he:starEach (e::es) X.env=(false,eval e X.env)::starEach es X.env:=by rfl) (hpl:(backTo pos (starEach es X.env)).any (·.1)=false:=by rfl):PE X (.Call (.Name x p) (e::es) [] pos) (tCB r t):=by
 intro pins s σ H Q I h;refine wpAny_Call_Name_kw (an6 I hg hm hv ?_ hn hdb);exact PyProof.Rows.callWith_builtin1 (t7 (ha pos pins s σ H _ I h) fun us s1 ⟨vs,H1,I1,r1,q1⟩=>hc pins s1 σ H1 vs us Q I1 r1 q1) he hpl
theorem aw6 (hc:W9 X (.type T) r)(hg:Gl X x)(hm:X.mg x=none)(hv:bootBuiltins x=some (.type T))(ha:PA X (e::es) t)(hn:x≠"__name__":=by decide)(hdb:(x==("__debug__":Str))=false:=by decide)
   (he:starEach (e::es) X.env=(false,eval e X.env)::starEach es X.env:=by rfl) (hpl:(backTo pos (starEach es X.env)).any (·.1)=false:=by rfl):PE X (.Call (.Name x p) (e::es) [] pos) (tCB r t):=by
 intro pins s σ H Q I h;refine wpAny_Call_Name_kw (an6 I hg hm hv ?_ hn hdb);exact PyProof.Rows.callWith_type1 (t7 (ha pos pins s σ H _ I h) fun us s1 ⟨vs,H1,I1,r1,q1⟩=>hc pins s1 σ H1 vs us Q I1 r1 q1) he hpl
end
end L2
namespace HT
open PySem PyProof.Rows
def ba5:List Int->List Int->Bool
 |[],[]=>false
 |[],_::_=>true
 |_::_,[]=>false
 |x::xs,y::ys=>if x=y then ba5 xs ys else decide (x < y)
theorem cj1 (x y:Int)(xs ys:List Int):ba5 (x::xs) (y::ys)=if x=y then ba5 xs ys else decide (x < y):=rfl
theorem dd7 (y:Int)(ys:List Int):ba5 [] (y::ys)=true:=rfl
theorem cx0 (A:Around)(s:Shared)(a:Int)(t:Tok)(c:Int)(u:Tok):∃e,SeqAt.EqAt A s (.int a t) (.int c u) e/\(e=true↔a=c):=
 ⟨(a==c),SeqAt.EqAt.int_int a t c u,by simp⟩
theorem cx1 (A:Around)(s:Shared)(a:Int)(t:Tok)(c:Int)(u:Tok)(prog:Program)(w:World)(E:Value->Shared->Prop)(Q:Value->Shared->Prop)(h:Q (.bool (decide (a < c))) s):
   wpAny (model prog w) A (richCompare .Lt (.int a t) (.int c u)) Q E s:=
 (PyProof.Rows.lt_int h:wpAny (model prog w) A (compareOp .Lt (.int a t) (.int c u)) Q E s)
section
variable {prog:Program} {w:World} {A:Around} {E:Value->Shared->Prop} {s:Shared}
def sIx (n d:Nat):Option Int->Nat
 |none=>d
 |some v=>if v < 0 then (v+(n:Int)).toNat else min v.toNat n
theorem dy4 (n d:Nat):sIx n d none=d:=rfl
theorem ea0 (n d k:Nat):sIx n d (some (k:Int))=min k n:=by
 show (if (k:Int) < 0 then ((k:Int)+(n:Int)).toNat else min (k:Int).toNat n)=min k n;rw[if_neg (by omega),eg3]
end
end HT
namespace L2
open PySem PySem.Spec PyProof.Rows
abbrev TO:=St->Hp->(Option Int->Hp->Prop)->Prop
def PO (X:Cx)(e:Option Expr)(t:TO):Prop:=
 ∀(pins:List (Addr×Obj)) (s:Shared) (σ:St) (H:Hp) (Q:Option Int->Hp->Prop),i4 X pins σ H s->t σ H Q->
  wpAny (model X.prog X.w) X.A (evalPart e X.env) (fun u s'=>∃o H',i4 X pins σ H' s'/\IsPart u o/\Q o H') X.xe s
def dd8:TO:=fun _ H Q=>Q none H
def ds3 (t:TE):TO:=fun σ H Q=>t σ H fun x H1=>∃i,x= .int i/\Q (some i) H1
theorem aa9 {ns:List Int}:∀{us:List Value},l8 (ns.map V.int) us->IntsAre us ns:=by
 induction ns with
 |nil=>intro us r;rw[ep5] at r;cases r;exact .nil
 |cons n ns ih=>
  intro us r;rw[eg6] at r
  cases r with
  |cons r1 r2=>
   obtain ⟨t,e⟩:=r1;subst e;exact .cons n t (ih r2)
section
variable {X:Cx} {e:Expr} {te:TE} {lo hi:Option Expr} {tl th:TO} {pos p2:Pos}
theorem an8:PO X none dd8:=by
 intro pins s σ H Q I h;rw[evalPart_none];exact wpAny_pure ⟨none,H,I,.none,h⟩
theorem ac7 (h:PE X e te):PO X (some e) (ds3 te):=by
 intro pins s σ H Q I hw;rw[evalPart_some]
 refine t7 (h pins s σ H _ I hw) fun u s1 ⟨x,H1,I1,r1,q1⟩=> ?_
 obtain ⟨i,rfl,q⟩:=q1;obtain ⟨t,rfl⟩:=r1;exact ⟨some i,H1,I1,.int i t,q⟩
def SlR (X:Cx)(r:V->Option Int->Option Int->Hp->VK->Prop):Prop:=
 ∀(pins:List (Addr×Obj)) (s:Shared) (σ:St) (H:Hp) (x:V) (v vl vu:Value) (lo hi:Option Int) (sl:Addr) (Q:VK),i4 X pins σ H s->o7 x v->s.heap.IsSliceOf sl vl vu .none->IsPart vl lo->IsPart vu hi->r x lo hi H Q->
  ∃T id,typeLookup (.type T) "__getitem__"=pure (some (.builtin id))/\s.TypeIs v T/\wpAny (model X.prog X.w) X.A (getItem v (.ref sl)) (EP X pins σ Q) X.xe s
def tSl (r:V->Option Int->Option Int->Hp->VK->Prop)(te:TE)(tl th:TO):TE:=fun σ H Q=>te σ H fun x H1=>tl σ H1 fun l H2=>th σ H2 fun u H3=>r x l u H3 Q
theorem ah9 {r:V->Option Int->Option Int->Hp->VK->Prop}(hr:SlR X r)(he:PE X e te)(hl:PO X lo tl)(hu:PO X hi th):PE X (.Subscript e (.Slice lo hi none p2) pos) (tSl r te tl th):=by
 intro pins s σ H Q I h;refine Subscript_ (t7 (he pins s σ H _ I h) fun v s1 ⟨x,H1,I1,r1,q1⟩=> ?_);refine wpAny_Slice (t7 (hl pins s1 σ H1 _ I1 q1) fun vl s2 ⟨l,H2,I2,pl,q2⟩=>t7 (hu pins s2 σ H2 _ I2 q2) fun vu s3 ⟨u,H3,I3,pu,q3⟩=> ?_);rw[evalPart_none];refine wpAny_pure ?_
 have I4:i4 X pins σ H3 {s3 with heap:=s3.heap.push {cls:= .type "slice",data:= .fields #[vl,vu,.none]}}:=I3.kept (t':=s3.toks) fun b ob q=>Heap.get?_push_of_some _ q
 obtain ⟨T,id,hT,ht,hg⟩:=hr pins {s3 with heap:=s3.heap.push {cls:= .type "slice",data:= .fields #[vl,vu,.none]}} σ H3 x v vl vu l u s3.heap.objs.size Q I4 r1 (Heap.IsSliceOf.new ..) pl pu q3;show wpAny (model X.prog X.w) X.A (subscriptTail e (.Slice lo hi none p2) v (.ref s3.heap.objs.size)) (EP X pins σ Q) X.xe {s3 with heap:=s3.heap.push {cls:= .type "slice",data:= .fields #[vl,vu,.none]}};exact tail_any (ops:=[.ref s3.heap.objs.size,v]) ht hT hg (by with_unfolding_all rfl)
def aq5 (xs:List V)(lo hi:Option Int):List V:=(xs.drop (HT.sIx xs.length 0 lo)).take (HT.sIx xs.length xs.length hi - HT.sIx xs.length 0 lo)
theorem cc6 (xs:List V)(lo hi:Option Int):(aq5 xs lo hi).length<=xs.length:=by
 unfold aq5;rw[ee1,eg1];omega
end
end L2
namespace L2
open PySem PySem.Spec PyProof.Rows
def ixN (n:Nat)(i:Int):Option Nat:=if 0<=i then (if i < n then some i.toNat else none) else if -(n:Int)<=i then some (i+n).toNat else none
def V7 {α:Type}(xs:List α)(i:Int):Option α:=(ixN xs.length i).bind fun j=>xs[j]?
theorem ba6 {n:Nat}{i:Int}{j:Nat}(h:ixN n i=some j):seqIndex? i n=some j/\j < n/\ -(n:Int)<=i/\i < n:=by
 unfold ixN at h
 by_cases h0:0<=i
 · rw[if_pos h0] at h
   by_cases h1:i < n
   · rw[if_pos h1] at h;have e:i.toNat=j:=Option.some.inj h;exact ⟨by rw[seqIndex_of h0 h1,e],by omega,by omega,h1⟩
   · rw[if_neg h1] at h;cases h
 · rw[if_neg h0] at h
   by_cases h1: -(n:Int)<=i
   · rw[if_pos h1] at h;have e:(i+n).toNat=j:=Option.some.inj h;exact ⟨by rw[seqIndex_neg (by omega) h1,e],by omega,h1,by omega⟩
   · rw[if_neg h1] at h;cases h
theorem dd9 {α:Type}{xs:List α}{i:Int}{v:α}(h:V7 xs i=some v):∃j,seqIndex? i xs.length=some j/\xs[j]? =some v/\j < xs.length/\ -(xs.length:Int)<=i/\i < xs.length:=by
 unfold V7 at h
 cases e:ixN xs.length i with
 |none=>rw[e] at h;cases h
 |some j=>
  rw[e] at h;obtain ⟨h1,h2,h3,h4⟩:=ba6 e;exact ⟨j,h1,h,h2,h3,h4⟩
theorem C4 {α:Type}{xs:List α}{j:Nat}{v:α}(h:xs[j]? =some v):V7 xs (j:Int)=some v:=by
 have hj:j < xs.length:=(eb9.mp h).1
 have e:ixN xs.length (j:Int)=some j:=by
   unfold ixN;rw[if_pos (by omega),if_pos (by omega)];simp
 unfold V7;rw[e];exact h
def de0 (b:Expr):Prop:=∀o i,subscripted b false o i=operate [o,i] (getItem o i)
def IxR (X:Cx)(r:R2):Prop:=
 ∀(value slice:Expr) (pins:List (Addr×Obj)) (s:Shared) (σ:St) (H:Hp) (x y:V) (v u:Value) (Q:VK),i4 X pins σ H s->o7 x v->o7 y u->r x y H Q->
  subscripted slice false v u=operate [v,u] (getItem v u)->wpAny (model X.prog X.w) X.A (subscriptTail value slice v u) (EP X pins σ Q) X.xe s
def MtR (X:Cx)(id:String)(r:V->List V->Hp->VK->Prop):Prop:=
 ∀(pins:List (Addr×Obj)) (s:Shared) (σ:St) (H:Hp) (x:V) (xs:List V) (v:Value) (us:List Value) (Q:VK),i4 X pins σ H s->o7 x v->l8 xs us->r x xs H Q->
  wpAny (model X.prog X.w) X.A (call (.builtin id) (v::us)) (EP X pins σ Q) X.xe s
section
variable {X:Cx} {a b:Expr} {ta tb:TE} {pos:Pos}
theorem J2 {r:R2}(hr:IxR X r)(ha:PE X a ta)(hb:PE X b tb)(hs:de0 b):PE X (.Subscript a b pos) (tOp r ta tb):=by
 intro pins s σ H Q I h;exact Subscript_ (cw6 ha hb I h fun v u s2 x y H2 I2 rx ry q=>hr a b pins s2 σ H2 x y v u Q I2 rx ry q (hs _ _))
def be1 (K:PySem.W.Frag):R2:=fun x y H Q=>∃p xs i v,x= .ref p/\y= .int i/\g9 K H p xs/\V7 xs i=some v/\Q v H
theorem B9:IxR X (be1 X.K):=by
 intro value slice pins s σ H x y v u Q I rx ry h hs;obtain ⟨p,xs,i,z,rfl,rfl,hq,he,q⟩:=h;cases rx;obtain ⟨t,rfl⟩:=ry;obtain ⟨its,r,pl,hz⟩:=I.list hq;obtain ⟨j,h1,h2,h3,h4,h5⟩:=dd9 he;obtain ⟨w,ew,rw'⟩:=r.get h2;have hl:=r.length;have hn:=bu6;have fin:EP X pins σ Q w s:=⟨z,H,I,rw',q⟩
 by_cases h0:0<=i
 · have hj:i.toNat=j:=by
     rw[seqIndex_of h0 h5] at h1;exact Option.some.inj h1
   exact item_listR pl.isList h0 (by omega) (by rw[hj];simpa using ew) fin hs
 · have hj:(i+(its.toArray.size:Int)).toNat=j:=by
     rw[seqIndex_neg (by omega) h4] at h1;rw[ed4,<-hl];exact Option.some.inj h1
   exact subscriptTail_builtinR (x:=w) pl.isList.typeIs slot_list_getitem.lookup
     (wpAny_getItem_list_neg (Q:=fun r s'=>r=w/\EP X pins σ Q r s') pl.isList (by omega) (by rw[ed4]<;>omega) (by omega) (by rw[hj];simpa using ew) ⟨rfl,fin⟩) hs
theorem cj2 (its:List Value)(n j:Nat)(u:Value):Obj.mapSeq (·.setIfInBounds j u) {cls:= .type "list",data:= .seq its.toArray n}={cls:= .type "list",data:= .seq (its.set j u).toArray n}:=by
 simp [Obj.mapSeq]
theorem i4.lst {pins:List (Addr×Obj)}{σ:St}{H:Hp}{s:Shared}{p:Addr}{xs:List V}(I:i4 X pins σ H s)(h:H p=some (.lst xs)):
   ∃(its:List Value) (n:Nat),l8 xs its/\s.heap.get? p=some {cls:= .type "list",data:= .seq its.toArray n}/\xs.length<=sizeLine:=by
 obtain ⟨z,its,n,r,e⟩:=I.hok p _ h;exact ⟨its,n,r,e,z⟩
theorem i4.lstUpd {pins:List (Addr×Obj)}{σ:St}{H:Hp}{s:Shared}{p:Addr}{xs ys:List V}{its its':List Value}{n n':Nat}{f:Obj->Obj}(I:i4 X pins σ H s)(h:H p=some (.lst xs))
   (ho:s.heap.get? p=some {cls:= .type "list",data:= .seq its.toArray n}) (hf:f {cls:= .type "list",data:= .seq its.toArray n}={cls:= .type "list",data:= .seq its'.toArray n'}) (r:l8 ys its') (hz:ys.length<=sizeLine) (t:Nat):
   i4 X pins σ (c9 H p (.lst ys)) {s with heap:=s.heap.update p f,toks:=t}:=by
 have e:(s.heap.update p f).get? p=some {cls:= .type "list",data:= .seq its'.toArray n'}:=by
   rw[Heap.get?_update_self f ho (by rw[hf]<;>rfl),hf]
 refine I.write (x:=p) (e:=p) (by rw[h];trivial) (.inl rfl) (fun b u hb q=>(Heap.get?_update_other _ _ (Ne.symm hb)).trans q) ⟨_,e⟩ ?_;exact ⟨hz,its',n',r,e⟩
def ds4:V->V->V->Hp->(Hp->Prop)->Prop:=fun o i v H Q=>∃p xs k j,o= .ref p/\i= .int k/\H p=some (.lst xs)/\ixN xs.length k=some j/\Q (c9 H p (.lst (xs.set j v)))
theorem ac8:dk7 X ds4:=by
 intro pins s σ H o i v ov iv u Q I ro ri rv h;obtain ⟨p,xs,k,j,rfl,rfl,hp,hj,q⟩:=h;cases ro;obtain ⟨t,rfl⟩:=ri;obtain ⟨its,n,r,ho,hz⟩:=I.lst hp;obtain ⟨h1,h2,h3,h4⟩:=ba6 hj;have hl:=r.length;have hn:=bu6
 have I':i4 X pins σ (c9 H p (.lst (xs.set j v))) {s with heap:=s.heap.update p (Obj.mapSeq (·.setIfInBounds j u))}:=
   I.lstUpd hp ho (cj2 its n j u) (r.set rv j) (by rw[en5];exact hz) s.toks
 by_cases h0:0<=k
 · have hk:k.toNat=j:=by
     rw[seqIndex_of h0 h4] at h1;exact Option.some.inj h1
   exact PySem.W.ki_setAt ho h0 (by omega) (by rw[ed4,<-hl];exact h4) (by rw[hk];exact ⟨_,I',q⟩)
 · have hk:(k+(its.toArray.size:Int)).toNat=j:=by
     rw[seqIndex_neg (by omega) h3] at h1;rw[ed4,<-hl];exact Option.some.inj h1
   exact PySem.W.ki_setBack ho (by omega) (by rw[ed4,<-hl];exact h3) (by omega) (by rw[hk];exact ⟨_,I',q⟩)
theorem bu8 (lo hi:Option Int)(n:Nat):(sliceBounds lo hi none n).1=((HT.sIx n 0 lo:Nat):Int)/\(sliceBounds lo hi none n).2.1=((HT.sIx n n hi:Nat):Int)/\(sliceBounds lo hi none n).2.2=1:=by
 refine ⟨?_,?_,rfl⟩
 · cases lo with
   |none=>simp [sliceBounds,HT.sIx]
   |some i=>
    simp only[sliceBounds,HT.sIx,Option.getD_none,show (1:Int) > 0 by decide,if_true]
    by_cases h:i < 0
    · simp only[h,if_true]<;>omega
    · simp only[h,if_false]<;>omega
 · cases hi with
   |none=>simp [sliceBounds,HT.sIx]
   |some i=>
    simp only[sliceBounds,HT.sIx,Option.getD_none,show (1:Int) > 0 by decide,if_true]
    by_cases h:i < 0
    · simp only[h,if_true]<;>omega
    · simp only[h,if_false]<;>omega
theorem bs5 (its:List Value)(lo hi:Option Int):slicePick its.toArray lo hi none=((its.drop (HT.sIx its.length 0 lo)).take (HT.sIx its.length its.length hi - HT.sIx its.length 0 lo)).toArray:=by
 obtain ⟨h1,h2,h3⟩:=bu8 lo hi its.toArray.size;unfold slicePick;rw[h1,h2,h3]
 simp only[sliceRange_one,pick_run,ed4]<;>rfl
def dy5 (K:PySem.W.Frag):V->Option Int->Option Int->Hp->VK->Prop:=fun x lo hi H Q=>∃a xs,x= .ref a/\g9 K H a xs/\∀p,H p=none->Q (.ref p) (c9 H p (.lst (aq5 xs lo hi)))
theorem an9:SlR X (dy5 X.K):=by
 intro pins s σ H x v vl vu lo hi sl Q I rx hs pl pu h;obtain ⟨a,xs,rfl,hx,q⟩:=h;cases rx;obtain ⟨its,r,ht,hz⟩:=I.list hx;have hlen:=r.length;refine ⟨"list",_,slot_list_getitem.lookup,ht.isList.typeIs,?_⟩;refine wpAny_getItem_list_slice ht.isList hs pl pu .none (by simp) ?_ (by rw[ed4]<;>omega);rw[bs5,<-hlen];refine ⟨.ref s.heap.objs.size,_,I.laid (t':=s.toks) (o:= .lst (aq5 xs lo hi)) (fun b ob q=>Heap.get?_push_of_some _ q) (ec0 _) ?_,rfl,q _ (I.hok.fresh (ec0 _))⟩;exact ⟨ed3 (cc6 xs lo hi) hz,_,0,(r.drop (HT.sIx xs.length 0 lo)).take (HT.sIx xs.length xs.length hi - HT.sIx xs.length 0 lo),Heap.get?_push_size _ rfl⟩
def Q2:V->Bool
 | .non=>true
 | .bl _=>true
 | .int _=>true
 | .str _=>true
 |_=>false
def eqV:V->V->Bool
 | .non,.non=>true
 | .bl a,.bl b=>a==b
 | .bl a,.int b=>(if a then 1 else 0)==b
 | .int a,.bl b=>a==(if b then 1 else 0)
 | .int a,.int b=>a==b
 | .str a,.str b=>a==b
 |_,_=>false
theorem co1 {A:Around}{s:Shared}{y x:V}{u v:Value}(ry:o7 y u)(rx:o7 x v)(fy:Q2 y=true)(fx:Q2 x=true):SeqAt.EqAt A s u v (eqV y x):=by
 cases y with
 |non=>
  cases ry
  cases x with
  |non=>cases rx;exact SeqAt.EqAt.same _
  |bl b=>cases rx;exact SeqAt.EqAt.none_bool b
  |int b=>obtain ⟨t,rfl⟩:=rx;exact SeqAt.EqAt.none_int b t
  |str b=>obtain ⟨t,rfl⟩:=rx;exact SeqAt.EqAt.none_str b t
  |_=>exact absurd (show false=true from fx) ee2
 |bl a=>
  cases ry
  cases x with
  |non=>cases rx;exact SeqAt.EqAt.bool_none a
  |bl b=>cases rx;exact SeqAt.EqAt.bool_bool a b
  |int b=>obtain ⟨t,rfl⟩:=rx;exact SeqAt.EqAt.bool_int a b t
  |str b=>obtain ⟨t,rfl⟩:=rx;exact SeqAt.EqAt.bool_str a b t
  |_=>exact absurd (show false=true from fx) ee2
 |int a=>
  obtain ⟨t',rfl⟩:=ry
  cases x with
  |non=>cases rx;exact SeqAt.EqAt.int_none a t'
  |bl b=>cases rx;exact SeqAt.EqAt.int_bool a t' b
  |int b=>obtain ⟨t,rfl⟩:=rx;exact SeqAt.EqAt.int_int a t' b t
  |str b=>obtain ⟨t,rfl⟩:=rx;exact SeqAt.EqAt.int_str a t' b t
  |_=>exact absurd (show false=true from fx) ee2
 |str a=>
  obtain ⟨t',rfl⟩:=ry
  cases x with
  |non=>cases rx;exact SeqAt.EqAt.str_none a t'
  |bl b=>cases rx;exact SeqAt.EqAt.str_bool a t' b
  |int b=>obtain ⟨t,rfl⟩:=rx;exact SeqAt.EqAt.str_int a t' b t
  |str b=>obtain ⟨t,rfl⟩:=rx;exact SeqAt.EqAt.str_str a t' b t
  |_=>exact absurd (show false=true from fx) ee2
 |_=>exact absurd (show false=true from fy) ee2
def eqU (x:V)(u:Value):Bool:=match u with
 | .none=>eqV .non x
 | .bool b=>eqV (.bl b) x
 | .int i _=>eqV (.int i) x
 | .str z _=>eqV (.str z) x
 |_=>false
theorem bh4 {x y:V}{u:Value}(r:o7 y u)(f:Q2 y=true):eqU x u=eqV y x:=by
 cases y with
 |non=>cases r;rfl
 |bl b=>cases r;rfl
 |int i=>obtain ⟨t,rfl⟩:=r;rfl
 |str z=>obtain ⟨t,rfl⟩:=r;rfl
 |_=>exact absurd (show false=true from f) ee2
theorem bl1 {x:V}:∀{xs:List V} {us:List Value},l8 xs us->xs.all Q2=true->us.any (eqU x)=xs.any fun y=>eqV y x
 |_,_,.nil,_=>rfl
 |y::xs,u::us,.cons r t,f=>by
  rw[ew2,eh9] at f;rw[et4,et4,bh4 r f.1,bl1 t f.2]
theorem ai0 {A:Around}{s:Shared}{x:V}{v:Value}(rx:o7 x v)(fx:Q2 x=true):∀{xs:List V} {us:List Value},l8 xs us->xs.all Q2=true->∀u∈us,SeqAt.EqAt A s u v (eqU x u)
 |_,_,.nil,_=>fun u hu=>by cases hu
 |y::xs,u::us,.cons r t,f=>fun u' hu=>by
  rw[ew2,eh9] at f
  rcases ee0.mp hu with rfl|hu
  · rw[bh4 r f.1];exact co1 r rx f.1 fx
  · exact ai0 rx fx t f.2 u' hu
def inV (x:V)(xs:List V):Bool:=xs.any fun y=>eqV y x
def rIn (K:PySem.W.Frag)(neg:Bool):R2:=fun x y H Q=>∃p xs,y= .ref p/\(g9 K H p xs\/Q0 K H p xs)/\Q2 x=true/\xs.all Q2=true/\Q (.bl (if neg then !inV x xs else inV x xs)) H
theorem bu9:O7 X (compareOp .NotIn) (rIn X.K true):=by
 intro pins s σ H x y v u Q I rx ry h;obtain ⟨p,xs,rfl,hq,fx,fs,q⟩:=h;cases ry
 rcases hq with hq|hq
 · obtain ⟨its,r,pl,hz⟩:=I.list hq;refine SeqAt.notIn_listAt (eqU x) pl.isList (fun w hw=>ai0 rx fx r fs w (by simpa using hw)) ⟨.bl _,H,I,rfl,?_⟩;rw[show its.toArray.any (eqU x)=its.any (eqU x) by simp,bl1 r fs];exact q
 · obtain ⟨its,r,pl,hz⟩:=I.tuple hq;refine SeqAt.notIn_tupleAt (eqU x) pl (fun w hw=>ai0 rx fx r fs w (by simpa using hw)) ⟨.bl _,H,I,rfl,?_⟩;rw[show its.toArray.any (eqU x)=its.any (eqU x) by simp,bl1 r fs];exact q
theorem bv0:W9 X (.builtin "len") (fun xs H Q=>∃p ys,xs=[.ref p]/\(g9 X.K H p ys\/Q0 X.K H p ys)/\Q (.int ys.length) H):=by
 intro pins s σ H xs us Q I r h;obtain ⟨p,ys,rfl,hq,q⟩:=h;obtain ⟨u,rfl,rx⟩:=ak7 r;cases rx;have hn:=bu6
 rcases hq with hq|hq
 · obtain ⟨its,r',pl,hz⟩:=I.list hq;have hlen:=r'.length;exact Calls.call_len_list pl.isList (by simp only[ed4]<;>omega) ⟨.int ys.length,H,I.tok _,⟨s.toks+1,by rw[ed4,hlen]⟩,q⟩
 · obtain ⟨its,r',pl,hz⟩:=I.tuple hq;have hlen:=r'.length;exact len_tuple pl (by simp only[ed4]<;>omega) ⟨.int ys.length,H,I.tok _,⟨s.toks+1,by rw[ed4,hlen]⟩,q⟩
theorem bv3:W9 X (.type "list") (fun xs H Q=>∃p ys,xs=[.ref p]/\(g9 X.K H p ys\/Q0 X.K H p ys)/\∀l,H l=none->Q (.ref l) (c9 H l (.lst ys))):=by
 intro pins s σ H xs us Q I r h;obtain ⟨p,ys,rfl,hq,q⟩:=h;obtain ⟨u,rfl,rx⟩:=ak7 r;cases rx
 have fin:∀(its:List Value),l8 ys its->ys.length<=sizeLine->∀(h':Heap) (c':Nat),(∀b o',s.heap.get? b=some o'->h'.get? b=some o')->
     h'.get? s.heap.objs.size=some {cls:= .type "list",dict:=none,data:= .seq its.toArray c',slots:= #[]}->EP X pins σ Q (.ref s.heap.objs.size) {s with heap:=h'}:=fun its r' hz h' c' kp e=>
   ⟨.ref s.heap.objs.size,_,I.laid (t':=s.toks) kp (ec0 _) (show B0 X.prog X.w _ h' _ (.lst ys) from ⟨hz,its,c',r',e⟩),rfl,q _ (I.hok.fresh (ec0 _))⟩
 rcases hq with hq|hq
 · obtain ⟨its,r',pl,hz⟩:=I.list hq;have hlen:=r'.length;obtain ⟨o,ho,hc,n,hd⟩:=pl.isList;exact call_list_seq p (.inl rfl) ho hc hd (fun h' c' kp e=>fin its r' hz h' c' kp e) (by simp only[ed4]<;>omega)
 · obtain ⟨its,r',pl,hz⟩:=I.tuple hq;have hlen:=r'.length;obtain ⟨o,ho,hc,n,hd⟩:=pl;exact call_list_seq p (.inr rfl) ho hc hd (fun h' c' kp e=>fin its r' hz h' c' kp e) (by simp only[ed4]<;>omega)
def tyV (K:PySem.W.Frag)(T:String)(x:V)(H:Hp):Prop:=match x with
 | .str _=>T="str"
 | .int _=>T="int"
 | .ref p=>(T="list"/\∃xs,g9 K H p xs)\/(T="tuple"/\∃o,K.lookup p=some o/\o.cls= .type "tuple"/\o.dict=none)\/
     (T="dict"/\((∃kvs,H p=some (.dK kvs))\/∃kvs,H p=some (.dT kvs)))\/(T="set"/\∃S n,H p=some (.set S n))
 |_=>False
theorem co2 {pins:List (Addr×Obj)}{σ:St}{H:Hp}{s:Shared}{T:String}{x:V}{v:Value}(I:i4 X pins σ H s)(r:o7 x v)(ty:tyV X.K T x H):
   s.TypeIs v T/\∀a,v= .ref a->∃ob,s.heap.get? a=some ob/\ob.dict=none:=by
 cases x with
 |str z=>
  obtain ⟨t,rfl⟩:=r;cases (show T="str" from ty);exact ⟨typeIs_str s z t,fun _ e=>nomatch e⟩
 |int i=>
  obtain ⟨t,rfl⟩:=r;cases (show T="int" from ty);exact ⟨typeIs_int s i t,fun _ e=>nomatch e⟩
 |ref p=>
  cases r
  rcases ty with ⟨rfl,xs,hq⟩|⟨rfl,o,hk,hc,hd⟩|⟨rfl,hk⟩|⟨rfl,S,n,hk⟩
  · obtain ⟨its,_,pl,_⟩:=I.list hq;refine ⟨pl.isList.typeIs,fun a e=> ?_⟩;cases e;obtain ⟨o,n,e,c,hd,_⟩:=pl;exact ⟨o,e,hd⟩
  · refine ⟨⟨o,I.kIn p o hk,hc⟩,fun a e=> ?_⟩;cases e;exact ⟨o,I.kIn _ o hk,hd⟩
  · have z:∃o,s.heap.get? p=some o/\o.ExactDict:=by
      rcases hk with ⟨kvs,hk⟩|⟨kvs,hk⟩
      · obtain ⟨_,_,_,_,o,_,_,e,ex,_⟩:=I.hok p _ hk;exact ⟨o,e,ex⟩
      · obtain ⟨_,_,_,_,o,_,_,e,ex,_⟩:=I.hok p _ hk;exact ⟨o,e,ex⟩
    obtain ⟨o,e,ex⟩:=z;refine ⟨⟨o,e,ex.1⟩,fun a e2=> ?_⟩;cases e2;exact ⟨o,e,ex.2.1⟩
  · obtain ⟨o,_,_,_,e,ex,_⟩:=I.hok p _ hk;refine ⟨⟨o,e,ex.1⟩,fun a e2=> ?_⟩;cases e2;exact ⟨o,e,ex.2.1⟩
 |_=>exact False.elim ty
def dl9 (K:PySem.W.Frag)(T:String)(r:V->List V->Hp->VK->Prop)(to:TE):TE:=fun σ H Q=>to σ H fun x H1=>tyV K T x H1/\r x [] H1 Q
def tBM (K:PySem.W.Frag)(T:String)(r:V->List V->Hp->VK->Prop)(to:TE)(t:TA):TE:=fun σ H Q=>to σ H fun x H1=>tyV K T x H1/\t σ H1 fun xs H2=>r x xs H2 Q
variable {o e:Expr} {es:List Expr} {to:TE} {t:TA} {name:Str} {apos cpos:Pos} {T id:String} {r:V->List V->Hp->VK->Prop}
theorem dm0 (pa:PlainAttrs T)(slot:Slot T name id)(hty:typeOf (.builtin id)=pure (.type "method_descriptor"))(hm:MtR X id r)(ho:PE X o to)
   (hbase:attributeBase o name X.env (eval o X.env)=eval o X.env:=by rfl) (hline:(apos.endLine==cpos.line)=true:=by rfl):PE X (.Call (.Attribute o name apos) [] [] cpos) (dl9 X.K T r to):=by
 intro pins s σ H Q I h;refine wpAny_Call_method0_late hbase hline (t7 (ho pins s σ H _ I h) fun v s1 ⟨x,H1,I1,r1,ty,q1⟩=> ?_);obtain ⟨h1,h2⟩:=co2 I1 r1 ty;exact ⟨T,id,pa,slot,hty,h1,h2,Calls.callWith_builtin rfl (PySem.evalArgs_none (hm pins s1 σ H1 x [] v [] Q I1 r1 .nil q1))⟩
theorem ba7 (pa:PlainAttrs T)(slot:Slot T name id)(hty:typeOf (.builtin id)=pure (.type "method_descriptor"))(hm:MtR X id r)(ho:PE X o to)(ha:PA X (e::es) t)
   (hbase:attributeBase o name X.env (eval o X.env)=eval o X.env:=by rfl)
   (hfew:((backTo cpos (starEach (e::es) X.env)).all (fun x=> !x.1)&&(backToKw cpos (keywordEach [] X.env)).all (fun x=>x.1.isSome)
     &&decide ((e::es).length+([]:List Keyword).length+(if ([]:List Keyword).isEmpty then 0 else 1) < 30))=true:=by rfl)
   (hline:(apos.endLine==cpos.line)=true:=by rfl) (hs:starEach (e::es) X.env=(false,eval e X.env)::starEach es X.env:=by rfl) (hplain:(backTo cpos (starEach es X.env)).any (·.1)=false:=by rfl):
   PE X (.Call (.Attribute o name apos) (e::es) [] cpos) (tBM X.K T r to t):=by
 intro pins s σ H Q I h;refine wpAny_Call_method_late hbase hfew hline rfl (t7 (ho pins s σ H _ I h) fun v s1 ⟨x,H1,I1,r1,ty,q1⟩=> ?_);obtain ⟨h1,h2⟩:=co2 I1 r1 ty;refine ⟨T,id,pa,slot,hty,h1,h2,?_⟩;have hA:=ha cpos pins s1 σ H1 _ I1 q1;rw[hs] at hA ⊢;refine Calls.callWith_builtin (by show (false||(backTo cpos (starEach es X.env)).any (·.1))=false;rw[hplain]<;>rfl) (Calls.evalArgs_plain ?_)
 exact t7 hA fun us s2 ⟨vs,H2,I2,r2,q2⟩=>hm pins s2 σ H2 x vs v us Q I2 r1 r2 q2
end
end L2
namespace L2
open PySem PySem.Spec PyProof.Rows
def MtM (X:Cx)(id:String)(r:V->List V->Hp->VK->Prop):Prop:=
 ∀(pins:List (Addr×Obj)) (s:Shared) (σ:St) (H:Hp) (x:V) (xs:List V) (v:Value) (us:List Value) (Q:VK),i4 X pins σ H s->o7 x v->l8 xs us->r x xs H Q->
  wpAny (model X.prog X.w) X.A (call (.builtin id) (v::us)) (EP X pins σ Q) X.xe s
theorem l8.one:∀{x:V} {us:List Value},l8 [x] us->∃u,us=[u]/\o7 x u
 |_,_,.cons r .nil=>⟨_,rfl,r⟩
theorem l8.zero:∀{us:List Value},l8 [] us->us=[]
 |_,.nil=>rfl
theorem l8.dropLast {xs:List V}{us:List Value}(h:l8 xs us):l8 xs.dropLast us.dropLast:=by
 induction h with
 |nil=>exact .nil
 |cons r t ih=>
  cases t with
  |nil=>exact .nil
  |cons q t'=>exact .cons r ih
theorem l8.eraseIdx:∀{xs:List V} {us:List Value} (i:Nat),l8 xs us->l8 (xs.eraseIdx i) (us.eraseIdx i)
 |_,_,_,.nil=> .nil
 |_,_,0,.cons _ t=>t
 |_,_,i+1,.cons r t=> .cons r (l8.eraseIdx i t)
theorem l8.reverse {xs:List V}{us:List Value}(h:l8 xs us):l8 xs.reverse us.reverse:=by
 induction h with
 |nil=>exact .nil
 |cons r t ih=>rw[List.reverse_cons,List.reverse_cons];exact l8.append ih (.cons r .nil)
theorem l8.rep {xs:List V}{us:List Value}(h:l8 xs us):∀k:Nat,l8 (ed6 k xs).flatten (ed6 k us).flatten
 |0=> .nil
 |k+1=>by
  rw[em6,em6,eg7,eg7];exact l8.append h (l8.rep h k)
theorem cj3 {α:Type}(l:List α):l.eraseIdx (l.length - 1)=l.dropLast:=by
 induction l with
 |nil=>rfl
 |cons a r ih=>
  cases r with
  |nil=>rfl
  |cons b r=>
   have e:(a::b::r).length - 1=((b::r).length - 1)+1:=by
     have h1:(a::b::r).length=r.length+2:=rfl;have h2:(b::r).length=r.length+1:=rfl;omega
   rw[e,List.eraseIdx_cons_succ,ih]
   all_goals rfl
theorem bp4 {α:Type}:∀(l:List α) (i:Nat),(l.eraseIdx i).length<=l.length
 |[],_=>ec0 _
 |_::_,0=>er9 _
 |_::r,i+1=>ex3 (bp4 r i)
theorem bp5 (its:List Value):∀(k:Nat) (acc:List Value),
   List.foldl (fun x1 x2=>x1++x2) acc.toArray (ed6 k its.toArray)=(acc++(ed6 k its).flatten).toArray
 |0,acc=>by simp
 |k+1,acc=>by
  have e:acc.toArray++its.toArray=(acc++its).toArray:=by simp
  have e2:(acc++its)++(ed6 k its).flatten=acc++(ed6 (k+1) its).flatten:=by
    rw[em6,eg7,ed9]
  rw[<-e2,<-bp5 its k (acc++its),<-e,em6,List.foldl_cons]
section
variable {X:Cx} {pins:List (Addr×Obj)} {σ:St} {H:Hp} {s:Shared} {l b:Addr} {xs ys zs:List V}
theorem i4.lset {its its':List Value}{n:Nat}{f:Array Value->Array Value}{t':Nat}(I:i4 X pins σ H s)(hH:H l=some (.lst xs))
   (e:s.heap.get? l=some {cls:= .type "list",data:= .seq its.toArray n}) (hf:f its.toArray=its'.toArray) (hv:l8 ys its') (hz:ys.length<=sizeLine):
   i4 X pins σ (c9 H l (.lst ys)) {s with heap:=s.heap.update l (Obj.mapSeq f),toks:=t'}:=by
 have q:=PySem.IsL.update e f;rw[hf] at q;refine I.write (x:=l) (e:=l) (by rw[hH];exact trivial) (.inl rfl) (fun b' u hb hu=>(Heap.get?_update_other s.heap (Obj.mapSeq f) (Ne.symm hb)).trans hu) ⟨_,q⟩ ?_;exact ⟨hz,its',_,hv,q⟩
theorem i4.lnew {its:List Value}{t':Nat}(I:i4 X pins σ H s)(hv:l8 ys its)(hz:ys.length<=sizeLine):
   i4 X pins σ (c9 H s.heap.objs.size (.lst ys)) {s with heap:=s.heap.push {cls:= .type "list",data:= .seq its.toArray},toks:=t'}:=
 I.laid (fun _ _ q=>Heap.get?_push_of_some _ q) (ec0 _) ⟨hz,its,0,hv,Heap.get?_push_size _ rfl⟩
theorem i4.fresh (I:i4 X pins σ H s):H s.heap.objs.size=none:=I.hok.fresh (ec0 _)
theorem i4.lstM (I:i4 X pins σ H s)(hH:H l=some (.lst xs)):xs.length<=sizeLine/\∃(its:List Value) (n:Nat),l8 xs its/\xs.length=its.length/\s.heap.get? l=some {cls:= .type "list",data:= .seq its.toArray n}:=by
 obtain ⟨z,its,n,r,e⟩:=I.hok l _ hH;exact ⟨z,its,n,r,r.length,e⟩
theorem bv6 {n:Nat}(h:n<=sizeLine):Builtin.List.listTooLong n=false:=by
 unfold Builtin.List.listTooLong;exact decide_eq_false (by omega)
end
section
variable {X:Cx}
def ce7:V->List V->Hp->VK->Prop:=fun x vs H Q=>∃l xs y,x= .ref l/\vs=[y]/\H l=some (.lst xs)/\xs.length < sizeLine/\Q .non (c9 H l (.lst (xs++[y])))
theorem co3:MtM X "list.append" ce7:=by
 intro pins s σ H x vs v us Q I rx rv h;obtain ⟨l,xs,y,rfl,rfl,hH,hz,q⟩:=h;cases rx;obtain ⟨u,rfl,ru⟩:=rv.one;obtain ⟨z,its,n,r,hl,e⟩:=I.lstM hH;refine call_meets F.slot_list_append ⟨_,e,rfl⟩ F.entry_list_append (F.args_list_append_2 _ _) (PySem.list_append l its.toArray n u (by rw[ed4];omega)) ⟨e,?_⟩;refine ⟨.non,_,I.lset (its':=its++[u]) hH e (by simp) (r.append (.cons ru .nil)) ?_,rfl,q⟩;rw[ec6,eq4];omega
def ce8:V->List V->Hp->VK->Prop:=fun x vs H Q=>∃l b xs zs,x= .ref l/\vs=[.ref b]/\H l=some (.lst xs)/\H b=some (.lst zs)/\xs.length+zs.length<=sizeLine/\Q .non (c9 H l (.lst (xs++zs)))
theorem co4:MtM X "list.extend" ce8:=by
 intro pins s σ H x vs v us Q I rx rv h;obtain ⟨l,b,xs,zs,rfl,rfl,hH,hB,hz,q⟩:=h;cases rx;obtain ⟨u,rfl,ru⟩:=rv.one;cases ru;obtain ⟨z,its,n,r,hl,e⟩:=I.lstM hH;obtain ⟨z2,its2,n2,r2,hl2,e2⟩:=I.lstM hB
 have hsz:its.toArray.size+its2.toArray.size<=sizeLine:=by rw[ed4,ed4];omega
 have hlong:¬(!its.toArray.isEmpty&&Builtin.List.listTooLong (its.toArray.size+its2.toArray.size))=true:=by
   rw[bv6 hsz,Bool.and_false];exact ee2
 refine call_meets F.slot_list_extend ⟨_,e,rfl⟩ F.entry_list_extend (F.args_list_extend_2 _ _)
   (AutoSeq1.list_extend_list_list_0 l its.toArray n b its2.toArray n2 hlong (by rw[ed4];omega) (by omega)) ⟨e,e2,?_⟩
 refine ⟨.non,_,I.lset (its':=its++its2) hH e (by simp) (r.append r2) ?_,rfl,q⟩;rw[ec6];omega
def dm1:V->List V->Hp->VK->Prop:=fun x vs H Q=>∃l xs y,x= .ref l/\vs=[]/\H l=some (.lst xs)/\xs[xs.length - 1]? =some y/\Q y (c9 H l (.lst xs.dropLast))
theorem dm2:MtM X "list.pop" dm1:=by
 intro pins s σ H x vs v us Q I rx rv h;obtain ⟨l,xs,y,rfl,rfl,hH,hy,q⟩:=h;cases rx;have hus:=rv.zero;subst hus;obtain ⟨z,its,n,r,hl,e⟩:=I.lstM hH;obtain ⟨u,hu,ru⟩:=r.get hy
 have hy':its.toArray[its.toArray.size - 1]? =some u:=by
   show its.toArray[its.length - 1]? =some u;rw[<-eh6,<-hl];exact hu
 refine call_meets F.slot_list_pop ⟨_,e,rfl⟩ F.entry_list_pop (F.args_list_pop_1 _) (MeetsSeq.list_pop_last l its.toArray n u hy' (by rw[ed4];omega)) ⟨e,?_⟩;refine ⟨y,_,I.lset (its':=its.dropLast) hH e ?_ r.dropLast ?_,ru,q⟩
 · show its.toArray.eraseIdxIfInBounds (its.toArray.size - 1)=its.dropLast.toArray;rw[ed4,et6,cj3]
 · rw[er1];omega
def co5:V->List V->Hp->VK->Prop:=fun x vs H Q=>∃l xs i k y,x= .ref l/\vs=[.int i]/\H l=some (.lst xs)/\ -(2^63)<=i/\i < 2^63/\seqIndex? i xs.length=some k/\xs[k]? =some y/\Q y (c9 H l (.lst (xs.eraseIdx k)))
theorem cx2:MtM X "list.pop" co5:=by
 intro pins s σ H x vs v us Q I rx rv h;obtain ⟨l,xs,i,k,y,rfl,rfl,hH,h1,h2,hk,hy,q⟩:=h;cases rx;obtain ⟨u,rfl,ru⟩:=rv.one;obtain ⟨t,rfl⟩:=ru;obtain ⟨z,its,n,r,hl,e⟩:=I.lstM hH;obtain ⟨w,hw,rw'⟩:=r.get hy
 refine call_meets F.slot_list_pop ⟨_,e,rfl⟩ F.entry_list_pop (F.args_list_pop_2 _ _)
   (MeetsSeq.list_pop_at l its.toArray n i t k w (fitsIndex_both h1 h2) (by rw[ed4,<-hl];exact hk) (by rw[<-eh6];exact hw) (by rw[ed4];omega)) ⟨e,?_⟩
 refine ⟨y,_,I.lset (its':=its.eraseIdx k) hH e ?_ (r.eraseIdx k) ?_,rw',q⟩
 · show its.toArray.eraseIdxIfInBounds k=(its.eraseIdx k).toArray;rw[et6]
 · have:=bp4 xs k;omega
def dy6:R2:=fun x y H Q=>∃l b xs zs,x= .ref l/\y= .ref b/\H l=some (.lst xs)/\H b=some (.lst zs)/\xs.length+zs.length<=sizeLine/\∀p,H p=none->Q (.ref p) (c9 H p (.lst (xs++zs)))
theorem ae6:O7 X (binaryOp .Add) dy6:=by
 intro pins s σ H x y v u Q I rx ry h;obtain ⟨l,b,xs,zs,rfl,rfl,hH,hB,hz,q⟩:=h;cases rx;cases ry;obtain ⟨z,its,n,r,hl,e⟩:=I.lstM hH;obtain ⟨z2,its2,n2,r2,hl2,e2⟩:=I.lstM hB;refine PySem.P.add_list e e2 ?_ (by rw[ed4,ed4];omega)
 have ea:its.toArray++its2.toArray=(its++its2).toArray:=by simp
 rw[ea];exact ⟨.ref _,_,I.lnew (t':=s.toks) (r.append r2) (by rw[ec6];omega),rfl,q _ I.fresh⟩
def dy7:R2:=fun x y H Q=>∃l k xs,x= .ref l/\y= .int k/\H l=some (.lst xs)/\ -(2^63)<=k/\k < 2^63/\xs.length*k.toNat<=sizeLine/\
 ∀p,H p=none->Q (.ref p) (c9 H p (.lst (ed6 k.toNat xs).flatten))
theorem de1 {α:Type}(xs:List α)(k:Nat):(ed6 k xs).flatten.length=k*xs.length:=by
 induction k with
 |zero=>simp
 |succ k ih=>rw[em6,eg7,ec6,ih,em8,ej4]
theorem aw7:O7 X (binaryOp .Mult) dy7:=by
 intro pins s σ H x y v u Q I rx ry h;obtain ⟨l,k,xs,rfl,rfl,hH,h1,h2,hz,q⟩:=h;cases rx;obtain ⟨t,rfl⟩:=ry;obtain ⟨z,its,n,r,hl,e⟩:=I.lstM hH
 have hlen:its.toArray.size*k.toNat<=sizeLine:=by rw[ed4,<-hl];exact hz
 have hcap:¬its.toArray.size*k.toNat > (2^63 - 1)/8:=by
   have:(sizeLine:Nat)<=(2^63 - 1)/8:=by decide
   omega
 have hfit:¬(!Builtin.List.listFitsIndex k)=true:=by
   rw[fitsIndex_both h1 h2];exact ee2
 have hlong:¬Builtin.List.listTooLong (its.toArray.size*k.toNat)=true:=by
   rw[bv6 hlen];exact ee2
 have hnew:List.foldl (fun x1 x2=>x1++x2) #[] (ed6 (if its.toArray.isEmpty=true then 0 else k.toNat) its.toArray)=(ed6 k.toNat its).flatten.toArray:=by
   have f0:∀m:Nat,List.foldl (fun x1 x2=>x1++x2) #[] (ed6 m its.toArray)=(ed6 m its).flatten.toArray:=fun m=>by
     have:=bp5 its m [];rw[List.nil_append] at this;exact this
   rw[f0]
   cases its with
   |nil=>simp
   |cons a r'=>rw[if_neg (by simp)]
 refine wpAny_binaryOp_repeat_ref (T:="list") (U:="int") (by decide) ⟨_,e,rfl⟩ (fun s'=>typeIs_int s' k t) noFill_list_mul F.fills_int_mul F.slot_int_rmul repeat_list F.slot_int_index.lookup
   (call_meets F.slot_int_rmul (typeIs_int s k t) F.entry_int_rmul (F.args_int_rmul_2 _ _) (int___rmul___int_list k t l its.toArray n)
     ⟨e,rfl,⟨_,e,rfl⟩,call_meets F.slot_list_mul ⟨_,e,rfl⟩ F.entry_list_mul (F.args_list_mul_2 _ _) (AutoListH.list___mul___list_int_3 l its.toArray n k t hfit hcap hlong) ⟨e,?_⟩⟩)
 rw[hnew];exact ⟨.ref _,_,I.lnew (t':=s.toks) (r.rep k.toNat) (by rw[de1,ei2];exact hz),rfl,q _ I.fresh⟩
end
end L2
namespace L2
open PySem PySem.Spec PyProof.Rows
section
variable {κ:Type} [DecidableEq κ]
def D0 (kvs:List (κ×V))(k:κ):Option V:=(kvs.find? fun kv=>decide (kv.1=k)).map (·.2)
def R4 (kvs:List (κ×V))(k:κ)(v:V):List (κ×V):=
 if (kvs.any fun kv=>decide (kv.1=k))=true then kvs.map (fun kv=>if kv.1=k then (kv.1,v) else kv) else kvs++[(k,v)]
theorem K6 {p:κ×V}{r:List (κ×V)}{k:κ}(e:p.1=k):D0 (p::r) k=some p.2:=by simp [D0,ep8,e]
theorem K3 {p:κ×V}{r:List (κ×V)}{k:κ}(e:¬p.1=k):D0 (p::r) k=D0 r k:=by simp [D0,ep8,e]
theorem ac9 (k:κ):∀kvs:List (κ×V),(kvs.any fun kv=>decide (kv.1=k))=(D0 kvs k).isSome
 |[]=>rfl
 |p::r=>by
  rw[et4]
  by_cases e:p.1=k
  · simp only[K6 e,decide_eq_true e,Bool.true_or,Option.isSome_some]
  · rw[K3 e,decide_eq_false e,Bool.false_or];exact ac9 k r
theorem bv7 (k j:κ)(y:V):∀kvs:List (κ×V),D0 (kvs.map fun kv=>if kv.1=k then (kv.1,y) else kv) j=(D0 kvs j).map fun x=>if j=k then y else x
 |[]=>rfl
 |p::r=>by
  have ih:=bv7 k j y r;rw[eg6]
  by_cases h:p.1=k
  · rw[if_pos h]
    by_cases e:p.1=j
    · rw[K6 (p:=(p.1,y)) e,K6 e,ep9,if_pos (e.symm.trans h)]
    · rw[K3 (p:=(p.1,y)) e,K3 e,ih]
  · rw[if_neg h]
    by_cases e:p.1=j
    · rw[K6 (p:=p) e,K6 e,ep9,if_neg (fun z=>h (e.trans z))]
    · rw[K3 (p:=p) e,K3 e,ih]
theorem bp6 (k j:κ)(y:V):∀kvs:List (κ×V),D0 kvs k=none->D0 (kvs++[(k,y)]) j=if j=k then some y else D0 kvs j
 |[],_=>by
  by_cases e:k=j
  · rw[if_pos e.symm];exact K6 (p:=(k,y)) e
  · rw[if_neg (fun z=>e z.symm)];exact K3 (p:=(k,y)) e
 |p::r,hn=>by
  rw[List.cons_append]
  have hk:¬p.1=k:=fun z=>by rw[K6 z] at hn;cases hn
  rw[K3 hk] at hn;have ih:=bp6 k j y r hn
  by_cases e:p.1=j
  · rw[K6 e,K6 e,if_neg (fun z=>hk (e.trans z))]
  · rw[K3 e,K3 e,ih]
theorem bv8 (kvs:List (κ×V))(k j:κ)(y:V):D0 (R4 kvs k y) j=if j=k then some y else D0 kvs j:=by
 unfold R4
 by_cases a:(kvs.any fun kv=>decide (kv.1=k))=true
 · rw[if_pos a,bv7];rw[ac9] at a
   by_cases e:j=k
   · obtain ⟨x,hx⟩:=es4.mp a;rw[if_pos e,e,hx,ep9,if_pos rfl]
   · rw[if_neg e]
     cases D0 kvs j with
     |none=>rfl
     |some x=>rw[ep9,if_neg e]
 · rw[if_neg a];refine bp6 k j y kvs ?_;rw[ac9] at a
   cases q:D0 kvs k with
   |none=>rfl
   |some x=>rw[q] at a;exact (a rfl).elim
theorem am1 (kvs:List (κ×V))(k:κ)(v:V):(R4 kvs k v).length<=kvs.length+1:=by
 unfold R4
 split
 · rw[eb7];omega
 · rw[ec6,eg9,eu5];omega
theorem aq6 {kvs:List (κ×V)}{k:κ}(v:V)(h:D0 kvs k=none):R4 kvs k v=kvs++[(k,v)]:=by
 unfold R4;rw[ac9,h];exact if_neg (by decide)
theorem ac3.isSome_eq {o:Option V}{u:Option Value}(r:ac3 o u):o.isSome=u.isSome:=by
 cases o with
 |none=>cases u with
  |none=>rfl
  |some _=>exact (show False from r).elim
 |some _=>cases u with
  |none=>exact (show False from r).elim
  |some _=>rfl
theorem ac3.getD {o:Option V}{u:Option Value}{d:V}{d':Value}(r:ac3 o u)(rd:o7 d d'):o7 (o.getD d) (u.getD d'):=by
 cases o with
 |none=>cases u with
  |none=>exact rd
  |some _=>exact (show False from r).elim
 |some _=>cases u with
  |none=>exact (show False from r).elim
  |some _=>exact r
theorem KV.val {kvs:List (κ×V)}{vs:List (κ×Value)}(r:KV kvs vs)(k:κ):ac3 (D0 kvs k) (valueAt vs k):=by
 unfold KV at r
 induction r with
 |nil=>exact True.intro
 |@cons p q ps qs h t ih=>
  obtain ⟨h1,h2⟩:=h
  by_cases e:p.1=k
  · have e':q.1=k:=h1.symm.trans e
    have b:valueAt (q::qs) k=some q.2:=by simp [valueAt,ep8,e']
    rw[K6 e,b];exact h2
  · have e':¬q.1=k:=fun z=>e (h1.trans z)
    have b:valueAt (q::qs) k=valueAt qs k:=by simp [valueAt,ep8,e']
    rw[K3 e,b];exact ih
theorem KV.any {kvs:List (κ×V)}{vs:List (κ×Value)}(r:KV kvs vs)(k:κ):(kvs.any fun kv=>decide (kv.1=k))=vs.any fun kv=>decide (kv.1=k):=by
 unfold KV at r
 induction r with
 |nil=>rfl
 |cons h t ih=>rw[et4,et4,ih,h.1]
theorem KV.repl {kvs:List (κ×V)}{vs:List (κ×Value)}(r:KV kvs vs)(k:κ){y:V}{u:Value}(ry:o7 y u):
   KV (kvs.map fun kv=>if kv.1=k then (kv.1,y) else kv) (vs.map fun kv=>if kv.1=k then (kv.1,u) else kv):=by
 unfold KV at r ⊢
 induction r with
 |nil=>exact .nil
 |@cons p q ps qs h t ih=>
  rw[eg6,eg6];refine .cons ?_ ih;obtain ⟨h1,h2⟩:=h
  by_cases e:p.1=k
  · rw[if_pos e,if_pos (h1.symm.trans e)];exact ⟨h1,ry⟩
  · rw[if_neg e,if_neg (fun z=>e (h1.trans z))];exact ⟨h1,h2⟩
theorem KV.put {kvs:List (κ×V)}{vs:List (κ×Value)}(r:KV kvs vs)(k:κ){y:V}{u:Value}(ry:o7 y u):KV (R4 kvs k y) (stored vs k u):=by
 unfold R4 stored;rw[r.any k]
 by_cases e:(vs.any fun kv=>decide (kv.1=k))=true
 · rw[if_pos e,if_pos e];exact r.repl k ry
 · rw[if_neg e,if_neg e];exact Paired.snoc r ⟨rfl,ry⟩
theorem KV.length {kvs:List (κ×V)}{vs:List (κ×Value)}(r:KV kvs vs):kvs.length=vs.length:=Paired.length r
end
theorem aq7 {P:Program}{w:World}{k:w6}{u:Value}(r:o7 (kV k) u):(E6 P w).is k u=true:=by
 cases k with
 |inl i=>obtain ⟨t,e⟩:=(show ∃t,u=Value.int i t from r);subst e;exact bc7 P w i t
 |inr x=>obtain ⟨t,e⟩:=(show ∃t,u=Value.str x t from r);subst e;exact bc8 P w x t
theorem bp7 {P:Program}{w:World}:∀{ks:List w6} {us:List Value},l8 (ks.map kV) us->ItemsAre (E6 P w) ks us
 |[],_,r=>by rw[ep5] at r;cases r;exact .nil
 |k::ks,_,r=>by
  rw[eg6] at r
  cases r with
  |cons h t=>exact .cons (aq7 h) (bp7 t)
abbrev KT (H:Hp):List (List w6×V)->List (List w6×Addr×Value)->Prop:=Paired fun p q=>p.1=q.1/\H q.2.1=some (.tup (p.1.map kV))/\o7 p.2 q.2.2
theorem KT.val {H:Hp}{kvs:List (List w6×V)}{xs:List (List w6×Addr×Value)}(r:KT H kvs xs)(k:List w6):ac3 (D0 kvs k) ((atKey xs k).map (·.2)):=by
 induction r with
 |nil=>exact True.intro
 |@cons p q ps qs h t ih=>
  obtain ⟨h1,_,h2⟩:=h
  by_cases e:p.1=k
  · have e':q.1=k:=h1.symm.trans e
    have b:atKey (q::qs) k=some q.2:=by simp [atKey,ep8,e']
    rw[K6 e,b];exact h2
  · have e':¬q.1=k:=fun z=>e (h1.trans z)
    have b:atKey (q::qs) k=atKey qs k:=by simp [atKey,ep8,e']
    rw[K3 e,b];exact ih
theorem KT.repl {H:Hp}{kvs:List (List w6×V)}{xs:List (List w6×Addr×Value)}(r:KT H kvs xs)(k:List w6){y:V}{u:Value}(ry:o7 y u):
   KT H (kvs.map fun kv=>if kv.1=k then (kv.1,y) else kv) (xs.map (putAt k u)):=by
 induction r with
 |nil=>exact .nil
 |@cons p q ps qs h t ih=>
  rw[eg6,eg6];refine .cons ?_ ih;obtain ⟨h1,h2,h3⟩:=h;unfold putAt
  by_cases e:p.1=k
  · rw[if_pos e,if_pos (h1.symm.trans e)];exact ⟨h1,h2,ry⟩
  · rw[if_neg e,if_neg (fun z=>e (h1.trans z))];exact ⟨h1,h2,h3⟩
theorem KT.put {H:Hp}{kvs:List (List w6×V)}{xs:List (List w6×Addr×Value)}(r:KT H kvs xs)(k:List w6){b:Addr}{y:V}{u:Value}(hb:H b=some (.tup (k.map kV)))(ry:o7 y u):
   KT H (R4 kvs k y) (storedH xs k b u):=by
 have e:(kvs.any fun kv=>decide (kv.1=k))=(atKey xs k).isSome:=by
   rw[ac9,(r.val k).isSome_eq,ew3]
 unfold R4 storedH;rw[e]
 by_cases q:(atKey xs k).isSome=true
 · rw[if_pos q,if_pos q];exact r.repl k ry
 · rw[if_neg q,if_neg q];exact Paired.snoc r ⟨rfl,hb,ry⟩
theorem KT.keeps {H H':Hp}{kvs:List (List w6×V)}{xs:List (List w6×Addr×Value)}(r:KT H kvs xs)(ht:∀b ys,H b=some (.tup ys)->H' b=some (.tup ys)):KT H' kvs xs:=
 Paired.mapP r fun _ _ z=>⟨z.1,ht _ _ z.2.1,z.2.2⟩
section
variable {P:Program} {w:World} {H:Hp} {h:Heap} {a:Addr}
theorem dc4 {u:HO}(ok:K5 P w H h)(e:Rd H a u):B0 P w H h a u:=e.ok ok
theorem aq8 {kvs:List (w6×V)}(ok:K5 P w H h)(e:Rd H a (.dK kvs)):kvs.length<=sizeLine/\(a==sysModules)=false/\∃vs,KV kvs vs/\h.DictOf (E6 P w) a vs:=
 show B0 P w H h a (.dK kvs) from dc4 ok e
theorem dc5 {kvs:List (w6×V)}(ok:K5 P w H h)(e:H a=some (.dK kvs)):kvs.length<=sizeLine/\(a==sysModules)=false/\∃vs,KV kvs vs/\h.DictOf (E6 P w) a vs:=aq8 ok (.inl e)
theorem ao0 {ks:List w6}(ok:K5 P w H h)(e:H a=some (.tup (ks.map kV))):(tupleKind (E6 P w)).is h ks a:=by
 obtain ⟨_,its,r,o,h1,h2,n,h3⟩:=(show B0 P w H h a (.tup (ks.map kV)) from ok a _ e);exact ⟨o,its.toArray,n,h1,h2,h3,by simpa using bp7 r⟩
theorem aq9 {kvs:List (List w6×V)}(ok:K5 P w H h)(e:Rd H a (.dT kvs)):kvs.length<=sizeLine/\(a==sysModules)=false/\
   ∃xs,KT H kvs xs/\h.DictOfH (tupleKind (E6 P w)) a xs:=by
 obtain ⟨z,y,xs,r,o,es,ep,h1,h2,h3,h4,h5⟩:=(show B0 P w H h a (.dT kvs) from dc4 ok e);refine ⟨z,y,xs,r,o,es,ep,h1,h2,h3,h4,fun x hx=> ?_,h5⟩
 have all:∀{l:List (List w6×V)} {m:List (List w6×Addr×Value)},KT H l m->∀x∈m,(tupleKind (E6 P w)).is h x.1 x.2.1:=by
   intro l m q
   induction q with
   |nil=>intro x hx;exact nomatch hx
   |@cons p q ps qs hq t ih=>
    intro x hx
    rcases ee0.mp hx with e|hx
    · subst e;exact ao0 ok (by rw[<-hq.1];exact hq.2.1)
    · exact ih x hx
 exact all r x hx
theorem ds5 {kvs:List (List w6×V)}(ok:K5 P w H h)(e:H a=some (.dT kvs)):kvs.length<=sizeLine/\(a==sysModules)=false/\
 ∃xs,KT H kvs xs/\h.DictOfH (tupleKind (E6 P w)) a xs:=aq9 ok (.inl e)
end
def X9 (H:Hp)(a:Addr)(y:V)(r:Option V):Prop:=
 (∃kvs k,Rd H a (.dK kvs)/\y=kV k/\r=D0 kvs k)\/∃kvs k b,Rd H a (.dT kvs)/\y= .ref b/\H b=some (.tup (k.map kV))/\r=D0 kvs k
def ar0 (H:Hp)(a:Addr)(y v:V)(H':Hp):Prop:=
 (∃kvs k,H a=some (.dK kvs)/\y=kV k/\kvs.length < sizeLine/\H'=c9 H a (.dK (R4 kvs k v)))\/
 ∃kvs k b,H a=some (.dT kvs)/\y= .ref b/\H b=some (.tup (k.map kV))/\kvs.length < sizeLine/\H'=c9 H a (.dT (R4 kvs k v))
theorem X9.k {H:Hp}{a:Addr}{kvs:List (w6×V)}{k:w6}(e:H a=some (.dK kvs)):X9 H a (kV k) (D0 kvs k):= .inl ⟨kvs,k,.inl e,rfl,rfl⟩
theorem ar0.k {H:Hp}{a:Addr}{kvs:List (w6×V)}{k:w6}{v:V}(e:H a=some (.dK kvs))(hl:kvs.length < sizeLine):ar0 H a (kV k) v (c9 H a (.dK (R4 kvs k v))):= .inl ⟨kvs,k,e,rfl,hl,rfl⟩
section
variable {X:Cx} {pins:List (Addr×Obj)} {σ:St} {H:Hp} {s:Shared} {a:Addr} {y v:V} {u r:Value} {o:Option V} {A:Around} {E:Value->Shared->Prop}
theorem i4.big (I:i4 X pins σ H s):sysModules < s.heap.objs.size:=by
 have h:mainGlobals < s.heap.objs.size:=(I.mod.glob.keeps I.bk).lt;exact Nat.lt_trans (by decide) h
theorem co6 {Q:Value->Shared->Prop}(hu:A.units+1 < cLine)(I:i4 X pins σ H s)(g:X9 H a y (some v))(ry:o7 y u)(h:∀w' s',i4 X pins σ H s'->o7 v w'->Q w' s'):
   wpAny (model X.prog X.w) A (getItem (.ref a) u) Q E s:=by
 rcases g with ⟨kvs,k,e,ey,l⟩|⟨kvs,k,b,e,ey,eb,l⟩
 · subst ey;obtain ⟨z,hd,vs,rel,dd⟩:=aq8 I.hok e;obtain ⟨w',hw,rw'⟩:=ac3.some_of (v:=v) (o:=valueAt vs k) (by rw[l];exact rel.val k);exact wpAny_getItem_of (aq7 ry) dd.mapOf hw (h w' _ (I.tok _) rw')
 · subst ey;cases (show u=Value.ref b from ry);obtain ⟨z,hd,xs,rel,dd⟩:=aq9 I.hok e;obtain ⟨w',hw,rw'⟩:=ac3.some_of (v:=v) (o:=(atKey xs k).map (·.2)) (by rw[l];exact rel.val k);obtain ⟨p,hp,hp2⟩:=Option.map_eq_some_iff.mp hw;refine wpAny_getItem_heap (tupleKind_room_in1 hu) (ao0 I.hok eb) dd hp ?_;rw[hp2];exact h w' _ (I.tok _) rw'
theorem dy8 {Q:Value->Shared->Prop}(hu:A.units+1 < cLine)(I:i4 X pins σ H s)(g:X9 H a y o)(ry:o7 y u)(h:∀s',i4 X pins σ H s'->Q (.bool o.isSome) s'):
   wpAny (model X.prog X.w) A (compareOp .In u (.ref a)) Q E s:=by
 rcases g with ⟨kvs,k,e,ey,l⟩|⟨kvs,k,b,e,ey,eb,l⟩
 · subst ey;obtain ⟨z,hd,vs,rel,dd⟩:=aq8 I.hok e;refine wpAny_in_of (aq7 ry) hd dd.mapOf ?_;rw[<-(rel.val k).isSome_eq,<-l];exact h _ (I.tok _)
 · subst ey;cases (show u=Value.ref b from ry);obtain ⟨z,hd,xs,rel,dd⟩:=aq9 I.hok e;refine wpAny_in_heap (tupleKind_room_in1 hu) (ao0 I.hok eb) hd dd ?_;have q:=(rel.val k).isSome_eq;rw[ew3] at q;rw[<-q,<-l];exact h _ (I.tok _)
theorem de2 {Q:Value->Shared->Prop}(hu:A.units+1 < cLine)(I:i4 X pins σ H s)(g:X9 H a y o)(ry:o7 y u)(h:∀s',i4 X pins σ H s'->Q (.bool (!o.isSome)) s'):
   wpAny (model X.prog X.w) A (compareOp .NotIn u (.ref a)) Q E s:=by
 rcases g with ⟨kvs,k,e,ey,l⟩|⟨kvs,k,b,e,ey,eb,l⟩
 · subst ey;obtain ⟨z,hd,vs,rel,dd⟩:=aq8 I.hok e;refine wpAny_notIn_of (aq7 ry) hd dd.mapOf ?_;rw[<-(rel.val k).isSome_eq,<-l];exact h _ (I.tok _)
 · subst ey;cases (show u=Value.ref b from ry);obtain ⟨z,hd,xs,rel,dd⟩:=aq9 I.hok e;refine wpAny_notIn_heap (tupleKind_room_in1 hu) (ao0 I.hok eb) hd dd ?_;have q:=(rel.val k).isSome_eq;rw[ew3] at q;rw[<-q,<-l];exact h _ (I.tok _)
theorem ba8 {h':Heap}{t':Nat}{ob:HO}(I:i4 X pins σ H s)(mu:Mut (H a))(hs:Heap.SameBut a s.heap h')(he:∃q,h'.get? a=some q)(new:B0 X.prog X.w (c9 H a ob) h' a ob):
   i4 X pins σ (c9 H a ob) {s with heap:=h',toks:=t'}:=
 I.write (x:=a) (e:=a) mu (.inl rfl) (fun b q hb z=>(hs.2 b hb).trans z) he new
theorem co7 {P:Program}{w:World}{H':Hp}{h':Heap}{kvs:List (w6×V)}{vs:List (w6×Value)}(z:kvs.length<=sizeLine)(hd:(a==sysModules)=false)(rel:KV kvs vs)(dd:h'.DictOf (E6 P w) a vs):
 B0 P w H' h' a (.dK kvs):=⟨z,hd,vs,rel,dd⟩
theorem co8 {H':Hp}{Q:Unit->Shared->Prop}(hu:A.units+1 < cLine)(I:i4 X pins σ H s)(g:ar0 H a y v H')(ry:o7 y u)(rv:o7 v r)(h:∀s',i4 X pins σ H' s'->Q () s'):
   wpAny (model X.prog X.w) A (setItem (.ref a) u r) Q E s:=by
 rcases g with ⟨kvs,k,e,ey,l,eH⟩|⟨kvs,k,b,e,ey,eb,l,eH⟩
 · subst ey eH;obtain ⟨z,hd,vs,rel,dd⟩:=dc5 I.hok e
   have hz:vs.length<=sizeLine:=by rw[<-rel.length];exact z
   have hl:(R4 kvs k v).length<=sizeLine:=by have:=am1 kvs k v;omega
   refine wpAny_setItem_pairs (hsz:=hz) (aq7 ry) dd fun h' dd' hs=>h _ ?_
   have he:∃q,h'.get? a=some q:=let ⟨q,_,_,hq,_⟩:=dd';⟨q,hq⟩;exact ba8 I (by rw[e];exact True.intro) hs he (co7 hl hd (rel.put k rv) dd')
 · subst ey eH;cases (show u=Value.ref b from ry);obtain ⟨z,hd,xs,rel,dd⟩:=ds5 I.hok e
   have hz:xs.length<=sizeLine:=by rw[<-Paired.length rel];exact z
   have hl:(R4 kvs k v).length<=sizeLine:=by have:=am1 kvs k v;omega
   refine wpAny_setItem_heap (hsz:=hz) (tupleKind_room_in1 hu) (ao0 I.hok eb) dd fun h' dd' hs=>h _ ?_
   obtain ⟨q,es,ep,hq,h2,h3,h4,_,h5⟩:=dd';refine ba8 I (by rw[e];exact True.intro) hs ⟨q,hq⟩ ⟨hl,hd,_,(rel.put k eb rv).keeps fun c ys ec=> ?_,q,es,ep,hq,h2,h3,h4,h5⟩;rw[g6 (ci3 ec e (fun z=>nomatch z))];exact ec
end
def dm3 (i:Expr):Prop:=∀ov iv,subscripted i false ov iv=operate [ov,iv] (getItem ov iv)
theorem de3 {prog:Program}{w:World}{A:Around}{E:Value->Shared->Prop}{s:Shared}{env:Env}{value slice:Expr}{pos:Pos}{T id:String}{Q:Value->Shared->Prop}
   (hl:typeLookup (.type T) "__getitem__"=pure (some (.builtin id))) (hs:dm3 slice)
   (h:wpAny (model prog w) A (eval value env) (fun o s₁=>wpAny (model prog w) A (eval slice env) (fun i s₂=>s₂.TypeIs o T/\wpAny (model prog w) A (getItem o i) Q E s₂) E s₁) E s):
   wpAny (model prog w) A (eval (.Subscript value slice pos) env) Q E s:=by
 refine Subscript_ (wpAny_mono h (fun o s₁ h₁=>wpAny_mono h₁ (fun i s₂ h₂=> ?_) fun _ _ x=>x) fun _ _ x=>x);obtain ⟨hT,h₂⟩:=h₂;unfold subscriptTail;refine wpAny_bind ?_;rw[getitemInPython_of_ne hT.not_modules];refine wpAny_bind (wpAny_specialOf hT hl ?_)
 have fin:wpAny (model prog w) A (subscripted slice false o i) (fun r s₃=>wpAny (model prog w) A (letTemporaryGo value o r >>=fun _=>pure r) Q E s₃) E s₂:=by
   rw[hs o i];exact wpAny_operating (wpAny_mono h₂ (fun r s₃ h₃=>wpAny_bind (wpAny_letTemporaryGo (wpAny_pure h₃))) fun _ _ x=>x)
 first
   |exact wpAny_pure (wpAny_bind fin)
   |exact wpAny_bind (wpAny_pure (wpAny_bind fin))
   |exact wpAny_bind fin
theorem cc7 {X:Cx}{pins:List (Addr×Obj)}{σ:St}{H:Hp}{s:Shared}{a:Addr}{y:V}{o:Option V}(I:i4 X pins σ H s)(g:X9 H a y o):s.TypeIs (.ref a) "dict":=by
 rcases g with ⟨kvs,k,e,_,_⟩|⟨kvs,k,b,e,_,_,_⟩
 · obtain ⟨_,_,vs,_,dd⟩:=aq8 I.hok e;exact dd.typeIs
 · obtain ⟨_,_,xs,_,dd⟩:=aq9 I.hok e;exact dd.typeIs
def ds6 (td ty:TE):TE:=fun σ H Q=>td σ H fun x H1=>ty σ H1 fun y H2=>∃a v,x= .ref a/\X9 H2 a y (some v)/\Q v H2
def dy9 (ty td:TE):TE:=fun σ H Q=>ty σ H fun y H1=>td σ H1 fun x H2=>∃a o,x= .ref a/\X9 H2 a y o/\Q (.bl o.isSome) H2
def de4 (ty td:TE):TE:=fun σ H Q=>ty σ H fun y H1=>td σ H1 fun x H2=>∃a o,x= .ref a/\X9 H2 a y o/\Q (.bl (!o.isSome)) H2
def ds7 (td ty tv:TE):TS:=fun D σ H=>tv σ H fun v H1=>td σ H1 fun x H2=>ty σ H2 fun y H3=>∃a H4,x= .ref a/\ar0 H3 a y v H4/\D.nx σ H4
section
variable {X:Cx} {o i e value:Expr} {pos pos' tpos:Pos} {td ty tv:TE}
theorem ao1 (hu:X.A.units+1 < cLine)(ho:PE X o td)(hi:PE X i ty)(hs:dm3 i):PE X (.Subscript o i pos) (ds6 td ty):=by
 intro pins s σ H Q I h;refine de3 PySem.F.slot_dict_getitem.lookup hs (t7 (ho pins s σ H _ I h) fun u s1 ⟨x,H1,I1,rx,q1⟩=>t7 (hi pins s1 σ H1 _ I1 q1) fun iv s2 ⟨y,H2,I2,ry,a,v,ex,g,q2⟩=> ?_);subst ex;obtain rfl:u=Value.ref a:=rx;exact ⟨cc7 I2 g,co6 hu I2 g ry fun w' s3 I3 rw'=>⟨v,H2,I3,rw',q2⟩⟩
theorem dm4 (hu:X.A.units+1 < cLine)(hi:PE X i ty)(ho:PE X o td):PC X .In i o (dy9 ty td):=by
 intro pins s σ H Q I h
 refine t7 (hi pins s σ H _ I h) fun iv s1 ⟨y,H1,I1,ry,q1⟩=>t7 (ho pins s1 σ H1 _ I1 q1) fun u s2 ⟨x,H2,I2,rx,a,ov,ex,g,q2⟩=> ?_
 subst ex;obtain rfl:u=Value.ref a:=rx
 exact dy8 hu I2 g ry fun s3 I3=>⟨.bl ov.isSome,H2,I3,rfl,q2⟩
theorem aw8 (hu:X.A.units+1 < cLine)(hi:PE X i ty)(ho:PE X o td):PC X .NotIn i o (de4 ty td):=by
 intro pins s σ H Q I h
 refine t7 (hi pins s σ H _ I h) fun iv s1 ⟨y,H1,I1,ry,q1⟩=>t7 (ho pins s1 σ H1 _ I1 q1) fun u s2 ⟨x,H2,I2,rx,a,ov,ex,g,q2⟩=> ?_
 subst ex;obtain rfl:u=Value.ref a:=rx
 exact de2 hu I2 g ry fun s3 I3=>⟨.bl (!ov.isSome),H2,I3,rfl,q2⟩
theorem ao2 (hu:X.A.units+1 < cLine)(ho:PE X o td)(hi:PE X i ty)(hv:PE X value tv)(hs:swapsWith value (some (.Subscript o i pos')) pos.line X.env=pure false):
   PS X (.Assign [.Subscript o i pos'] value pos) (ds7 td ty tv):=by
 intro pins s σ H D I h;refine wpAny_Assign_Subscript (t7 (hv pins s σ H _ I h) fun r s1 ⟨v,H1,I1,rv,q1⟩=>t7 (ho pins s1 σ H1 _ I1 q1) fun u s2 ⟨x,H2,I2,rx,q2⟩=>t7 (hi pins s2 σ H2 _ I2 q2) fun iv s3 ⟨y,H3,I3,ry,a,H4,ex,g,q3⟩=> ?_) hs;subst ex;obtain rfl:u=Value.ref a:=rx
 exact co8 hu I3 g ry rv fun s4 I4=>⟨σ,H4,I4,q3⟩
end
theorem cx3 {P:Program}{w:World}{H:Hp}(h:Heap)(hb:sysModules < h.objs.size):B0 P w H (h.push {cls:= .type "dict",data:= .dict #[]}) h.objs.size (.dK []):=
 ⟨ed7 _,beq_eq_false_iff_ne.mpr (Ne.symm (eh2 hb)),[],.nil,Heap.DictOf.new h⟩
def dm5:TE:=fun _ H Q=>∀p,H p=none->Q (.ref p) (c9 H p (.dK []))
section
variable {X:Cx} {pos:Pos}
theorem Z0:PE X (.Dict [] [] pos) dm5:=fun pins s σ H Q I h=>
 wpAny_Dict_empty ⟨.ref s.heap.objs.size,_,I.laid (a:=s.heap.objs.size) (o:= .dK []) (t':=s.toks) (fun _ _ q=>Heap.get?_push_of_some _ q) (ec0 _) (cx3 s.heap I.big),rfl,h _ (I.hok.fresh (ec0 _))⟩
end
structure M2 (X:Cx)(o:Expr)(m:Str)(apos:Pos)(e f:Expr)(cpos:Pos):Prop where
 base:attributeBase o m X.env (eval o X.env)=eval o X.env
 few:((backTo cpos (starEach [e,f] X.env)).all (fun x=> !x.1)&&(backToKw cpos (keywordEach [] X.env)).all (fun x=>x.1.isSome)
   &&decide (([e,f]:List Expr).length+([]:List Keyword).length+(if ([]:List Keyword).isEmpty then 0 else 1) < 30))=true
 line:(apos.endLine==cpos.line)=true
 trees:backTo cpos (starEach [e,f] X.env)=[(false,eval e X.env),(false,eval f X.env)]
def IsD (H:Hp)(a:Addr):Prop:=(∃kvs,Rd H a (.dK kvs))\/∃kvs,Rd H a (.dT kvs)
theorem dm6 {X:Cx}{pins:List (Addr×Obj)}{σ:St}{H:Hp}{s:Shared}{a:Addr}(I:i4 X pins σ H s)(d:IsD H a):
   s.TypeIs (.ref a) "dict"/\(∀b,Value.ref a= .ref b->∃ob,s.heap.get? b=some ob/\ob.dict=none)/\(a==sysModules)=false:=by
 rcases d with ⟨kvs,e⟩|⟨kvs,e⟩
 · obtain ⟨_,hd,vs,_,dd⟩:=aq8 I.hok e;refine ⟨dd.typeIs,fun b q=> ?_,hd⟩;cases q;obtain ⟨ob,_,_,h1,h2,_⟩:=dd;exact ⟨ob,h1,h2.2.1⟩
 · obtain ⟨_,hd,xs,_,dd⟩:=aq9 I.hok e;refine ⟨dd.typeIs,fun b q=> ?_,hd⟩;cases q;obtain ⟨ob,_,_,h1,h2,_⟩:=dd;exact ⟨ob,h1,h2.2.1⟩
section
variable {X:Cx} {pins:List (Addr×Obj)} {σ:St} {H:Hp} {s:Shared} {a:Addr} {y d:V} {u r:Value} {o:Option V} {A:Around} {E:Value->Shared->Prop}
theorem dm7 {Q:Value->Shared->Prop}(hu:A.units+1 < cLine)(I:i4 X pins σ H s)(g:X9 H a y o)(ry:o7 y u)(rd:o7 d r)(h:∀w' s',i4 X pins σ H s'->o7 (o.getD d) w'->Q w' s'):
   wpAny (model X.prog X.w) A (call (.builtin "dict.get") [.ref a,u,r]) Q E s:=by
 rcases g with ⟨kvs,k,e,ey,l⟩|⟨kvs,k,b,e,ey,eb,l⟩
 · subst ey;obtain ⟨z,hd,vs,rel,dd⟩:=aq8 I.hok e;refine call_meetsIn PySem.F.slot_dict_get dd.typeIs PySem.F.entry_dict_get (PySem.F.args_dict_get_3 _ _ _) (meets_dict_get_default (E6 X.prog X.w) a (aq7 ry) hd r) ⟨_,dd.mapOf,h _ _ (I.tok _) ?_⟩;rw[l];exact (rel.val k).getD rd
 · subst ey;cases (show u=Value.ref b from ry);obtain ⟨z,hd,xs,rel,dd⟩:=aq9 I.hok e;refine call_meetsIn PySem.F.slot_dict_get dd.typeIs PySem.F.entry_dict_get (PySem.F.args_dict_get_3 _ _ _) (meetsH_dict_get_default (tupleKind (E6 X.prog X.w)) a b hd r) ⟨tupleKind_room_in1 hu,k,xs,ao0 I.hok eb,dd,h _ _ (I.tok _) ?_⟩;rw[l];exact (rel.val k).getD rd
end
def dm8 (td ty tx:TE):TE:=fun σ H Q=>td σ H fun x H1=>∃a,x= .ref a/\IsD H1 a/\ty σ H1 fun y H2=>tx σ H2 fun z H3=>∃o,X9 H3 a y o/\Q (o.getD z) H3
section
variable {X:Cx} {o e f:Expr} {apos cpos:Pos} {td ty tx:TE}
theorem cx4 (hu:X.A.units+1 < cLine)(ho:PE X o td)(he:PE X e ty)(hf:PE X f tx)(m:M2 X o "get" apos e f cpos):PE X (.Call (.Attribute o "get" apos) [e,f] [] cpos) (dm8 td ty tx):=by
 intro pins s σ H Q I h;refine wpAny_Call_method m.base m.few m.line PySem.F.plainAttrs_dict PySem.F.slot_dict_get PySem.F.type_dict_get (t7 (ho pins s σ H _ I h) fun u s1 ⟨x,H1,I1,rx,a,ex,d,q1⟩=> ?_);subst ex;obtain rfl:u=Value.ref a:=rx;obtain ⟨t1,t2,_⟩:=dm6 I1 d;refine ⟨t1,t2,?_⟩;rw[m.trees]
 refine Calls.callWith_builtin rfl (Calls.evalArgs_plain (Calls.spliced_cons (t7 (he pins s1 σ H1 _ I1 q1) fun iv s2 ⟨y,H2,I2,ry,q2⟩=>
   Calls.spliced_cons (t7 (hf pins s2 σ H2 _ I2 q2) fun fv s3 ⟨z,H3,I3,rz,ov,g,q3⟩=>Calls.spliced_nil ?_))))
 exact dm7 hu I3 g ry rz fun w' s4 I4 rw'=>⟨_,H3,I4,rw',q3⟩
end
end L2
namespace Att
open PySem PySem.W PySem.Calls PyProof.Rows
theorem bh5 {P:Params}{h:Heap}:∀(ns:List Int) (vs:List Value),WellAll P h vs (ns.map WData.int)->IntsAre vs ns:=by
 intro ns
 induction ns with
 |nil=>
  intro vs w;rw[ep5] at w;cases w;exact .nil
 |cons n ns ih=>
  intro vs w;rw[eg6] at w
  cases w with
  |cons a b=>
   cases a;exact .cons _ _ (ih _ b)
theorem co9 {l:OpenLaw}{n:Nat}(hn:l.most=some n){P:Params}{h:Heap}{args:List WData}{vals:List Value}
   (hpre:l.row.toRowW.claim.pre args=true) (hwl:WellAll P h vals args):
   ∃a vs ns,vals=[Value.ref a]/\args=[WData.list (ns.map WData.int)]/\h.get? a=some {cls:= .type "list",data:= .seq vs.toArray}/\IntsAre vs ns/\ns.length<=n:=by
 have hsh:WShape.hasAll [] args [.list .int]=true:=(pre_splitW hpre).1;have hc:l.pre.holds [] {args:=args}=true:=(pre_splitW hpre).2;obtain ⟨d,r,rfl,h1,h2⟩:=hasAllW_cons hsh;obtain rfl:=hasAllW_nil h2;obtain ⟨xs,rfl,h3⟩:=hasW_list h1;obtain ⟨ns,rfl⟩:=items_int h3
 have hlen:ns.length<=n:=by
   unfold OpenLaw.pre at hc
   have h4:(WTm.not (.lt (.lit (.int (n:Int))) (.len (.arg 0)))).holds [] {args:=[.list (ns.map .int)]}=true:=by
     have h4:=(holds_andW hc).1;rw[hn] at h4;exact h4
   have h5:=condW_of h4 (w_not (w_lt w_lit (w_len_list (w_arg rfl))));rw[eb7] at h5
   refine Nat.le_of_not_lt fun q=> ?_
   have q':(n:Int) < ((ns.length:Nat):Int):=by omega
   first
     |(rw[decide_eq_true q'] at h5;exact absurd h5 (by decide))
     |(simp at h5;omega)
 cases hwl with
 |cons w1 w2=>
  cases w2
  cases w1 with
  |list ho hall=>exact ⟨_,_,ns,rfl,rfl,ho,bh5 ns _ hall,hlen⟩
theorem cp0 (l:OpenLaw)(args:List WData):l.row.toRowW.claim.post args (.bool true) args=true:=
 postW_of (r:=l.row.toRowW) (X:=(true==true))
   (show WShape.has [] (.bool true) .bool=true by first|rfl|decide|simp [WShape.has,WShape.arms,WShape.armsAll])
   (show (WTm.eq .res (.lit (.bool true))).value [] {args:=args,res:=some (.bool true),after:=args}=some (.bool (true==true)) from w_eq_bool (w_res rfl) w_lit) rfl
theorem dr1 {l:OpenLaw}{n:Nat}{q:Program}{loose:List Str}{XP:(Str->Option Value)->Heap->Prop}{YP:World->Heap->Prop}{d:DefRec}
   (hn:l.most=some n) (hdf:d.params.defaults=[])
   (call:∀(w:World) (s₀ s₁:Shared) (mg mb:Str->Option Value) (fa:Addr) (o:Obj) (pm cd doc:Value) (a:Addr) (vs:List Value) (ns:List Int),
     Ground q loose [] XP w s₀ mg mb s₁.heap->YP w s₁.heap->
     s₁.heap.get? fa=some o->o.data= .func (docDef d.name d.params d.body d.scope pm cd doc)->s₁.heap.CodeRec cd d.name->mg d.name=some (.ref fa)->
     s₁.heap.get? a=some {cls:= .type "list",data:= .seq vs.toArray}->IntsAre vs ns->ns.length<=n->s₁.gens= #[]->
     codeAny (model l.prog w) callerA (.call (.ref fa) ⟨[.ref a],[]⟩) (fun r s'=>r= .ok (.ret (.bool true))/\OldK s₁.heap s'.heap/\s'.os=s₁.os/\AllBare s'.gens) s₁):
   WalkO q loose XP YP l.row.toRowW d [] (fun f vs=>PySem.call f vs):=by
 intro w s₀ s₁ mg mb G Y fa o pm cd doc dV kV ho hd hcd hD hmg hg args vals as hpre hlay hrd hwl hlo;obtain rfl:dV= .none:=Dflts.none hD hdf;obtain rfl:kV= .none:=Dflts.noKw hD;obtain ⟨a,vs,ns,rfl,rfl,hobj,hints,hlen⟩:=co9 hn hpre hwl;refine enter_call (codeAny_mono (call w s₀ s₁ mg mb fa o pm cd doc a vs ns G Y ho (fd_plain hd) hcd hmg hobj hints hlen hg) fun r s' hq=> ?_);obtain ⟨rfl,h2,h3,h4⟩:=hq;exact ⟨.inl ⟨.bool true,.bool true,[],rfl,fun _=>rfl,.bool true,cp0 l _,fun _=>⟨List.Pairwise.nil,fun _ hm=>(nomatch hm)⟩⟩,h2,h3,h4⟩
end Att
namespace L2
open PySem PySem.Spec PyProof.Rows
theorem aw9:∀{vs:List Value} {ns:List Int},IntsAre vs ns->l8 (ns.map V.int) vs
 |_,_,.nil=> .nil
 |_,_,.cons n t h=> .cons ⟨t,rfl⟩ (aw9 h)
def cx5 (H:Hp):Prop:=∀b,H b=none\/∃o xs,H b=some (.frz o (.lst xs))
theorem cx6 {P:Program}{w:World}{K:PySem.W.Frag}{mg mb:Str->Option Value}{CX:CXT}{k:Nat}{fa a:Addr}{fd:FuncData}{x:Str}{sp:Sp}{s₁:Shared}{vs:List Value}{ns:List Int}
   (KX:K.In s₁.heap) (hns:s₁.heap.Ns mainGlobals mg) (hb:s₁.heap.Ns builtinsNs mb) (hbb:∀x:Str,x≠"__name__"->mb x=bootBuiltins x) (hlim:s₁.heap.NoLimit) (hg:s₁.gens= #[])
   (ha:s₁.heap.get? a=some {cls:= .type "list",data:= .seq vs.toArray}) (hi:IntsAre vs ns) (hl:ns.length<=sizeLine) (hr:n6 k callerA)
   (F:∀base:Heap,K.In base->base.Ns mainGlobals mg->o8 P w K mg base CX k fa fd [x] sp) (hbind:∀(s:Shared) (u:Value),BindsTo s fd ⟨[u],[]⟩ [(x,u)])
   (hsp:∀H:Hp,cx5 H->g9 K H a (ns.map V.int)->sp [.ref a] H (fun v _=>v= .bl true) fun _ _ _=>False)
   (hCX:∀H e s',CX [] H s₁ (fun _ _ _=>False) e s'->False):
   codeAny (model P w) callerA (.call (.ref fa) ⟨[.ref a],[]⟩) (fun r s'=>r= .ok (.ret (.bool true))/\OldK s₁.heap s'.heap/\s'.os=s₁.os/\AllBare s'.gens) s₁:=by
 have rv:=aw9 hi;have lenV:=hi.length
 have core:∀H:Hp,cx5 H->g9 K H a (ns.map V.int)->K5 P w H s₁.heap->(∀b,H b≠none->b=a)->(H a≠none->K.lookup a=none)->
     codeAny (model P w) callerA (.call (.ref fa) ⟨[.ref a],[]⟩) (fun r s'=>r= .ok (.ret (.bool true))/\OldK s₁.heap s'.heap/\s'.os=s₁.os/\AllBare s'.gens) s₁:=by
   intro H hO hS hok hA hK
   have bc0:∀{b:Addr} {o:Obj},s₁.heap.get? b=some o->H b=none->(aq4 s₁.heap H).get? b=some o:=fun e n=>cw4 e n
   have noA:∀{b:Addr} {o:Obj} {es:Array DictEntry} {ep:Nat},s₁.heap.get? b=some o->o.data= .dict es ep->H b=none:=fun {b o es ep} e d=>by
     cases q:H b with
     |none=>rfl
     |some u=>
      have e':b=a:=hA b (by rw[q];simp);subst e';rw[ha] at e;cases e;have d':Data.seq vs.toArray _=Data.dict es ep:=d;cases d'
   have nsK:∀{b:Addr} {m:Str->Option Value},s₁.heap.Ns b m->(aq4 s₁.heap H).Ns b m:=fun {b m} ⟨o,es,ep,e,d,r⟩=>⟨o,es,ep,bc0 e (noA e d),d,r⟩
   have hKb:K.In (aq4 s₁.heap H):=fun b o e=>bc0 (KX b o e) (by
     cases q:H b with
     |none=>rfl
     |some u=>
      have e':b=a:=hA b (by rw[q];simp);subst e'
      rw[hK (by rw[q];simp)] at e;cases e)
   have hM:Mod K mg (aq4 s₁.heap H):=⟨hKb,nsK hns,⟨mb,nsK hb,hbb⟩,let ⟨mc,h1,h2⟩:=hlim;⟨mc,nsK h1,h2⟩⟩;have e0:cj0 P w K mg (aq4 s₁.heap H) callerA [] s₁ H:=⟨rfl,hM,fun b o e=>dd4 e,eq8 (cm5 _ _),trivial,fun b hb=>absurd (show b∈([]:List Addr) from hb) (by simp),hok,.of_eq hg⟩
   refine codeAny_mono ((F _ hKb (nsK hns)).run callerA [] s₁ H ⟨[.ref a],[]⟩ [.ref a] [.ref a] _ _ hr e0 (hbind s₁ (.ref a)) (.cons rfl .nil) (hsp H hO hS)) fun r s' h=> ?_
   cases r with
   |error e=>exact (hCX H e s' h).elim
   |ok fl=>
    cases fl with
    |next=>exact False.elim h
    |brk=>exact False.elim h
    |cont=>exact False.elim h
    |ret u=>
     obtain ⟨v,H',os,bare,un,hok',r',q⟩:=h;have q':v= .bl true:=q;subst q';obtain rfl:u=Value.bool true:=r';refine ⟨rfl,OldK.of_keep fun b o e=> ?_,os,bare⟩
     cases q:H b with
     |none=>exact un.keep b o e q (by intro z;exact absurd (show b∈([]:List Addr) from z) (by simp)) (by simp)
     |some u=>
      rcases hO b with z|⟨ob,xs,z⟩
      · rw[q] at z;cases z
      · have z2:=un.frzs b ob _ z;obtain ⟨e1,_⟩:=hok b _ z;obtain ⟨e2,_⟩:=hok' b _ z2;rw[e] at e1;cases e1;exact e2
 cases hk:K.lookup a with
 |some o=>
  have e:=KX a o hk;rw[ha] at e;cases e
  refine core (fun _=>none) (fun _=> .inl rfl) (.inr ⟨_,vs.toArray,_,hk,rfl,rfl,rfl,by rw[ed4,lenV];exact hl,by simpa using rv⟩) (fun b u z=>by have z':(none:Option HO)=some u:=z;cases z') (fun b z=>absurd rfl z) fun z=>absurd rfl z
 |none=>
  refine core (fun b=>if b=a then some (.frz {cls:= .type "list",data:= .seq vs.toArray} (.lst (ns.map V.int))) else none) (fun b=> ?_) (.inl (.inr ⟨{cls:= .type "list",data:= .seq vs.toArray},if_pos rfl⟩)) (fun b u z=> ?_) (fun b z=> ?_) fun _=>hk
  · by_cases hb:b=a
    · exact .inr ⟨_,_,if_pos hb⟩
    · exact .inl (if_neg hb)
  · by_cases hb:b=a
    · have z':=(if_pos hb).symm.trans z;cases z';subst hb;exact ⟨ha,by rw[eb7];exact hl,vs,_,rv,ha⟩
    · have z':=(if_neg hb).symm.trans z;cases z'
  · by_cases hb:b=a
    · exact hb
    · exact absurd (if_neg hb) z
end L2
namespace L2
open PySem PySem.Spec PyProof.Rows
theorem ea1 {l:PySem.W.OpenLaw}{n k:Nat}{q:Program}{loose:List Str}{XP:(Str->Option Value)->Heap->Prop}{YP:World->Heap->Prop}{d:DefRec}{K:Params->PySem.W.Frag}{CX:World->CXT}{sp:World->Sp}{x:Str}
   (hn:l.most=some n) (hn2:n<=sizeLine) (hdf:d.params.defaults=[]) (hr:n6 k callerA)
   (hY:∀(w:World) (h:Heap),YP w h->(K w.params).In h)
   (F:∀(w:World) (mg:Str->Option Value) (fa:Addr) (h:Heap),(K w.params).In h->h.Ns mainGlobals mg->mg d.name=some (.ref fa)->
     ∃fd:FuncData,(∀(s:Shared) (u:Value),BindsTo s fd ⟨[u],[]⟩ [(x,u)])/\
      ∀base:Heap,(K w.params).In base->base.Ns mainGlobals mg->o8 l.prog w (K w.params) mg base (CX w) k fa fd [x] (sp w))
   (hsp:∀(w:World) (H:Hp) (a:Addr) (ns:List Int),ns.length<=n->cx5 H->g9 (K w.params) H a (ns.map V.int)->sp w [.ref a] H (fun v _=>v= .bl true) fun _ _ _=>False)
   (hCX:∀(w:World) (H:Hp) (s:Shared) (e:Value) (s':Shared),CX w [] H s (fun _ _ _=>False) e s'->False):
   PySem.W.WalkO q loose XP YP l.row.toRowW d [] (fun f vs=>PySem.call f vs):=by
 refine Att.dr1 hn hdf fun w s₀ s₁ mg mb fa o pm cd doc a vs ns G Y ho hd hcd hmg hobj hints hlen hg=> ?_
 have KX:=hY w _ Y;obtain ⟨fd,hb,hF⟩:=F w mg fa _ KX G.T.g hmg
 exact cx6 KX G.T.g G.T.b G.T.builtins G.T.nolimit hg hobj hints (ed3 hlen hn2) hr hF hb (fun H hO hS=>hsp w H a ns hlen hO hS) fun H e s'=>hCX w H s₁ e s'
end L2
namespace L2
open PySem PySem.Spec PyProof.Rows
def ah0 (s:Stmt):Arguments:=match s with
 | .FunctionDef _ a _ _ _ _ _ _ _ _=>a
 |_=>{posonlyargs:=[],args:=[],vararg:=none,kwonlyargs:=[],kw_defaults:=[],kwarg:=none,defaults:=[]}
def Z8 (s:Stmt):List Stmt:=match s with
 | .FunctionDef _ _ b _ _ _ _ _ _ _=>b
 |_=>[]
def j6 (s:Stmt):Scope:=match s with
 | .FunctionDef _ _ _ _ _ _ sc _ _ _=>sc
 |_=>{kind:= .function,names:=[],isGenerator:=false,isCoroutine:=false}
abbrev G2:CXT:=fun _ _ _ _ _ _=>False
abbrev E0:XK:=fun _ _ _=>False
theorem ds8 {X:Cx}:aw5 G2 X E0:=fun _ _ _ _ _ _ _ h=>h.elim
structure E7 (K:PySem.W.Frag)(x qual:Str)(st:Stmt)(f:Addr)(fd:FuncData):Prop where
 ex:∃(oc:Value) (od:Option Addr) (kV doc pm:Value) (an:Option Addr) (cdv ct:Value) (osl:Array (Option Value)),
   fd=PySem.W.fnOf x qual (ah0 st) (Z8 st) (j6 st) .none kV doc pm an cdv ct/\K.lookup f=some ⟨oc,od,.func fd,osl⟩/\PySem.W.codeIn K cdv qual=true
 kp:PySem.W.keepIn K (.ref f)=true
section
variable {P:Program} {w:World} {K:PySem.W.Frag} {mg:Str->Option Value} {base:Heap}
theorem E7.ok {x qual:Str}{st:Stmt}{f:Addr}{fd:FuncData}{N ps:List Str}{k:Nat}{sp:Sp}(F:E7 K x qual st f fd)(S:m8 N ps (j6 st))(len:∀vs H Q E,sp vs H Q E->vs.length=ps.length)
   (hbody:∀(cdv:Value) (A:Around) (outer:List Env) (s:Shared) (H:Hp) (vs:List V) (Q:VK) (E:XK),n6 k (A.deeper (envOfC qual (j6 st) s.heap.objs.size f cdv))->sp vs H Q E->
     ∃t,PSs (y7 G2 P w K mg base N qual (j6 st) f cdv A outer s H E).nox (Z8 st) t/\t {nx:=fun _ H'=>Q .non H',rt:=Q} (ae2 N vs) H):o8 P w K mg base G2 (k+1) f fd ps sp:=by
 obtain ⟨oc,od,kV,doc,pm,an,cdv,ct,osl,rfl,lk,hcd⟩:=F.ex
 refine dc2 lk hcd S len fun A outer s H vs Q E hr hsp=> ?_
 obtain ⟨t,h,q⟩:=hbody cdv A outer s H vs Q E hr hsp;exact ⟨t,h.nox,q⟩
theorem E7.binds {x qual:Str}{st:Stmt}{f:Addr}{fd:FuncData}{ps:List Str}(F:E7 K x qual st f fd)
   (h:∀(kV doc pm:Value) (an:Option Addr) (cdv ct:Value) (us:List Value),us.length=ps.length->bindArgs (PySem.W.fnOf x qual (ah0 st) (Z8 st) (j6 st) .none kV doc pm an cdv ct) ⟨us,[]⟩=pure (ps.zip us)):ag7 K fd ps []:=by
 obtain ⟨oc,od,kV,doc,pm,an,cdv,ct,osl,rfl,lk,hcd⟩:=F.ex;exact .all (h kV doc pm an cdv ct)
theorem dm9 {x qual:Str}{st:Stmt}{f:Addr}{oc:Value}{od an:Option Addr}{osl:Array (Option Value)}{kV doc pm cdv ct:Value}(l:K.lookup f=some ⟨oc,od,.func (PySem.W.fnOf x qual (ah0 st) (Z8 st) (j6 st) .none kV doc pm an cdv ct),osl⟩)
 (c:PySem.W.codeIn K cdv qual=true) (k:PySem.W.keepIn K (.ref f)=true):E7 K x qual st f (PySem.W.fnOf x qual (ah0 st) (Z8 st) (j6 st) .none kV doc pm an cdv ct):=⟨⟨oc,od,kV,doc,pm,an,cdv,ct,osl,rfl,l,c⟩,k⟩
end
theorem Q3 {A:Around}{k:Nat}(hr:n6 k A):A.units+1 < cLine:=ee5 (ep2 (by decide:1<=64) _) hr.units
theorem t5 {n:Nat}(h:n<=1000):n < sizeLine:=ee5 h (by decide)
section
variable {X:Cx}
theorem pv (i:Nat){x:Str}{pos:Pos}(hN:X.N[i]? =some x:=by rfl)(hv:Vis X.env.scope x:=by first|exact Or.inl rfl|exact Or.inr (Or.inl rfl)|exact Or.inr (Or.inr rfl))(hd:(x==("__debug__":Str))=false:=by decide)
 (hcd:(x==("__classdict__":Str))=false:=by decide):PE X (.Name x pos) (dk3 i):=dk4 hN hv hd hcd
end
theorem B6 {A B:Prop}(h:B):if false=true then A else B:=by
 rw[if_neg ee2];exact h
theorem O8 {A B:Prop}(h:A):if true=true then A else B:=by
 rw[if_pos rfl];exact h
theorem ab0 {c A B:Prop}[Decidable c](h1:c->A)(h2:¬c->B):if c then A else B:=by
 by_cases h:c
 · rw[if_pos h];exact h1 h
 · rw[if_neg h];exact h2 h
theorem bt7 {c A B:Prop}[Decidable c](hc:c)(h:B):if (!decide c)=true then A else B:=by
 rw[decide_eq_true hc];exact B6 h
def e7 (H H':Hp):Prop:=∀b o,H b=some o->H' b=some o
theorem e7.refl (H:Hp):e7 H H:=fun _ _ h=>h
theorem e7.trans {H H1 H2:Hp}(a:e7 H H1)(b:e7 H1 H2):e7 H H2:=fun c o h=>b c o (a c o h)
theorem e7.free {H H':Hp}(e:e7 H H'){l:Addr}(h:H' l=Option.none):H l=Option.none:=by
 cases q:H l with
 |none=>rfl
 |some o=>
  rw[e l o q] at h;cases h
section
variable {κ:Type} [DecidableEq κ]
theorem ao3:∀{l:List κ} {k:κ},l.Nodup->¬k∈l->(l++[k]).Nodup
 |[],k,_,_=>by simp
 |a::r,k,h,hk=>by
  obtain ⟨h1,h2⟩:=eg5.mp h;show (a::(r++[k])).Nodup;refine eg5.mpr ⟨fun m=> ?_,ao3 h2 fun m=>hk (ee0.mpr (Or.inr m))⟩
  rcases ed0.mp m with q|q
  · exact h1 q
  · exact hk (ee0.mpr (Or.inl (ec9.mp q).symm))
end
end L2
namespace L2
open PySem PySem.Spec PyProof.Rows
def Y3 (X:Cx)(N:List Str)(scope:Scope)(cl:List (Str×Addr))(C:Addr)(s0:Shared)(H0:Hp)(ex:List Addr):Cx:=
 {X with N:=N,s₀:=s0,H₀:=H0,env:=compEnvC scope cl C X.env,outer:=X.stack,stack:=X.stack,ex:=ex,fn:=fun _=>false,pn:=[],xe:=fun _ _=>False}
def bh6 (nl:Nat)(fr:List Nat)(σ:St):St:=ed6 nl none++fr.map fun j=>(σ[j]?).join
def J4 (env:Env):List (Str×NameKind)->List (Str×Addr)->List (Str×Addr)
 |[],cs=>cs
 |(n,k)::r,cs=>J4 env r (if (k==NameKind.free)=true then (n,(env.cells.lookup n).getD 0)::cs else cs)
theorem bh7 (env:Env):∀(ns:List (Str×NameKind)) (cs:List (Str×Addr)),(∀p∈ns,p.2= .free->∃c,env.cells.lookup p.1=some c)->(∀y c,cs.lookup y=some c->env.cells.lookup y=some c)->
   ∀y c,(J4 env ns cs).lookup y=some c->env.cells.lookup y=some c
 |[],cs,_,h,y,c,e=>h y c e
 |(n,k)::r,cs,hn,h,y,c,e=>by
  unfold J4 at e;refine bh7 env r _ (fun p hp=>hn p (ec7 _ hp)) ?_ y c e;intro z d ez
  split at ez
  · rename_i hk;rw[ej7] at ez
    cases hz:z==n with
    |true=>
     rw[hz] at ez;have hzn:z=n:=eq_of_beq hz;subst hzn
     have hkf:k= .free:=by simpa using hk
     obtain ⟨c',hc'⟩:=hn (z,k) ec5 hkf;have hc':env.cells.lookup z=some c':=hc';rw[hc'] at ez;rw[hc']
     simpa using ez
    |false=>
     rw[hz] at ez;exact h z d ez
  · exact h z d ez
theorem bc9 (env:Env):∀(ns:List (Str×NameKind)) (cs:List (Str×Addr)) (y:Str),(∃c,cs.lookup y=some c)->∃c,(J4 env ns cs).lookup y=some c
 |[],cs,y,h=>h
 |(n,k)::r,cs,y,⟨c,h⟩=>by
  unfold J4;refine bc9 env r _ y ?_
  split
  · rw[ej7]
    cases hz:y==n with
    |true=>exact ⟨_,rfl⟩
    |false=>exact ⟨c,h⟩
  · exact ⟨c,h⟩
theorem ar1 (env:Env):∀(ns:List (Str×NameKind)) (cs:List (Str×Addr)) (p:Str×NameKind),p∈ns->p.2= .free->∃c,(J4 env ns cs).lookup p.1=some c
 |[],cs,p,hp,_=>by simp at hp
 |(n,k)::r,cs,p,hp,hk=>by
  unfold J4
  rcases ee0.mp hp with e|hp
  · subst e;have hk:k= .free:=hk;subst hk;refine bc9 env r _ n ?_;rw[if_pos (by rfl),ej7];exact ⟨(List.lookup n env.cells).getD 0,by simp⟩
  · exact ar1 env r _ p hp hk
theorem ax0 (env:Env):∀(ns:List (Str×NameKind)) (cs:List (Str×Addr)),(∀p∈ns,p.2= .free->∃c,env.cells.lookup p.1=some c)->
   (forIn ns cs (fun (x:Str×NameKind) (r:List (Str×Addr))=>if (x.2==NameKind.free)=true then (do let a <-cellOf env x.1;pure (ForInStep.yield ((x.1,a)::r))) else pure (ForInStep.yield r)):Sem (List (Str×Addr)))=pure (J4 env ns cs)
 |[],cs,_=>rfl
 |(n,k)::r,cs,hn=>by
  have ih:=fun cs'=>ax0 env r cs' fun p hp=>hn p (ec7 _ hp)
  rw[List.forIn_cons];unfold J4
  by_cases hk:(k==NameKind.free)=true
  · obtain ⟨c,hc⟩:=hn (n,k) ec5 (by simpa using hk);have hc:env.cells.lookup n=some c:=hc;rw[if_pos hk,if_pos hk]
    have e1:cellOf env n=pure c:=by unfold cellOf;rw[hc]
    rw[e1,hc];exact ih _
  · rw[if_neg hk,if_neg hk];exact ih _
theorem av8 {scope:Scope}{env:Env}(h:∀p∈scope.names,p.2= .free->∃c,env.cells.lookup p.1=some c):closureFor scope env=pure (J4 env scope.names []):=by
 have e:=ax0 env scope.names [] h;unfold closureFor;show (forIn scope.names [] _ >>=_)=_;have e2:(forIn scope.names ([]:List (Str×Addr)) (fun (x:Str×NameKind) (r:List (Str×Addr))=>match x with|(name,kind)=>(if (kind==NameKind.free)=true then (do let a <-cellOf env name;pure PUnit.unit;pure (ForInStep.yield ((name,a)::r))) else (do pure PUnit.unit;pure (ForInStep.yield r)))):Sem (List (Str×Addr)))=pure (J4 env scope.names []):=e
 first
   |exact (congrArg (fun z=>z >>=fun cs=>pure cs) e2)
   |(rw[show (forIn scope.names ([]:List (Str×Addr)) _:Sem (List (Str×Addr)))=pure (J4 env scope.names []) from e];rfl)
section
variable {X:Cx}
def bv9 (X:Cx)(ifs:List Expr)(t:TT):Prop:=
 ∀(pins:List (Addr×Obj)) (s:Shared) (σ:St) (H:Hp) (Q:Bool->Hp->Prop),i4 X pins σ H s->t σ H Q->
  wpAny (model X.prog X.w) X.A (forIn ifs true fun c r=>if r=true then do let ok <-isTrue c X.env (eval c X.env);pure (ForInStep.yield ok) else pure (ForInStep.yield r)) (TP X pins σ Q) X.xe s
def dz0:TT:=fun _ H Q=>Q true H
theorem ar2:bv9 X [] dz0:=fun pins s σ H Q I h=>by
 rw[List.forIn_nil];exact wpAny_pure ⟨H,I,h⟩
theorem S7 {c:Expr}{t:TT}(h:PT X c t):bv9 X [c] t:=by
 intro pins s σ H Q I hw;rw[List.forIn_cons,if_pos rfl];refine wpAny_bind (wpAny_bind (t7 (h pins s σ H Q I hw) fun b s1 q=>wpAny_pure ?_));show wpAny _ _ (forIn [] b _) _ _ s1;rw[List.forIn_nil];exact wpAny_pure q
theorem bw0 {prog:Program}{w:World}{A:Around}{R:Result->Shared->Prop}{s:Shared}{elt target iter:Expr}{ifs:List Expr}{scope:Scope}{pos:Pos}{it acc:Value}{env:Env}(I:Nat->Shared->Prop)
   (turn:∀n s,I n s->wpAny (model prog w) A (pyNext it) (fun r s1=>match r with
     |none=>R (.ok .next) s1
     |some v=>wpAny (model prog w) A (letOwnedTupleGo target it v) (fun _ s2=>wpAny (model prog w) A (assign target env v) (fun _ s3=>
         wpAny (model prog w) A (forIn ifs true fun c r=>if r=true then do let ok <-isTrue c env (eval c env);pure (ForInStep.yield ok) else pure (ForInStep.yield r)) (fun ok s4=>
           if ok=true then wpAny (model prog w) A (eval elt env) (fun x s5=>
             wpAny (model prog w) A (call (.builtin "list.append") [acc,x]) (fun _ s6=>∃m,m < n/\I m s6) (fun _ _=>False) s5) (fun _ _=>False) s4
           else ∃m,m < n/\I m s4) (fun _ _=>False) s3) (fun _ _=>False) s2) (fun _ _=>False) s1) (fun _ _=>False) s)
   (n:Nat) (h:I n s):
   codeAny (model prog w) A (.compLoop (.ListComp elt [⟨target,iter,ifs,0⟩] scope pos) 0 it acc env) R s:=by
 refine codeAny_loop rfl I (fun n s hI=> ?_) n h;show wpAny _ A ((compTurn (.ListComp elt [⟨target,iter,ifs,0⟩] scope pos) 0 it acc env).onRaise (fun x=>do noteFrame x env;theTreesLotGoes x)) _ _ s;refine wpAny_noted ?_;rw[compTurn_list];refine wpAny_bind (wpAny_standAt (wpAny_bind (wpAny_mono (turn n s hI) (fun r s1 h1=> ?_) fun _ _ f=>f.elim)))
 cases r with
 |none=>exact wpAny_pure h1
 |some v=>
  refine wpAny_bind (wpAny_mono h1 (fun _ s2 h2=> ?_) fun _ _ f=>f.elim);refine wpAny_bind (wpAny_mono h2 (fun _ s3 h3=>wpAny_bind (wpAny_mono h3 (fun ok s4 h4=> ?_) fun _ _ f=>f.elim)) fun _ _ f=>f.elim)
  cases ok with
  |false=>exact wpAny_pure ⟨rfl,h4⟩
  |true=>
   exact wpAny_bind (wpAny_bind (wpAny_mono h4 (fun x s5 h5=>wpAny_bind (wpAny_mono h5 (fun _ s6 h6=>wpAny_pure (wpAny_pure ⟨rfl,h6⟩)) fun _ _ f=>f.elim)) fun _ _ f=>f.elim))
def cj4 (J:It)(g:TG)(tc:TT)(te:TE)(Q:VK)(σ0:St)(H0:Hp):Prop:=∃W:Nat->Nat->List V->St->Hp->Prop,(∃m,W 0 m [] σ0 H0)/\∀i m ys σ' H',W i m ys σ' H'->
 (J.stop i H'/\∀D,H' D=none->Q (.ref D) (c9 H' D (.lst ys)))\/
 (J.go i H'/\∃N:List V->St->Hp->Prop,(∀ys' σ2 H2,N ys' σ2 H2->∃m',m' < m/\W (i+1) m' ys' σ2 H2)/\∀x H2,J.yld i H' x H2->g x σ' H2 fun σ2 H3=>tc σ2 H3 fun b H4=>
   if b=true then te σ2 H4 fun y H5=>ys.length < sizeLine/\N (ys++[y]) σ2 H5 else N ys σ2 H4)
def cj5 (nl:Nat)(fr:List Nat)(wi:TI)(g:TG)(tc:TT)(te:TE):TE:=fun σ H Q=>wi σ H fun J H1=>cj4 J g tc te Q (bh6 nl fr σ) H1
structure ax1 (X:Cx)(N:List Str)(nl:Nat)(fr:List Nat)(scope:Scope):Prop where
 cell:∀y∈scope.names,y.2≠.cell
 kind:scope.kind= .function
 names:∀y∈scope.names,y.2= .local->scope.names.lookup y.1=some .local
 free:∀p∈scope.names,p.2= .free->X.env.kindOf p.1=some .cell\/X.env.kindOf p.1=some .free
 len:N.length=nl+fr.length
 fr:∀(k j:Nat),fr[k]? =some j->∃y,N[nl+k]? =some y/\X.N[j]? =some y/\Vis X.env.scope y/\scope.names.lookup y=some .free
theorem ad0 {env:Env}:∀{names:List (Str×NameKind)} {x:Str} {k:NameKind},(names.map fun (n,k)=>if (k==NameKind.free&&env.scope.kind== .function&&env.kindOf n==some .cell) then (n,NameKind.cell) else (n,k)).lookup x=some k->
   k= .cell\/k= .free->(∀y∈names,y.2≠.cell)->∃p∈names,p.1=x/\p.2= .free
 |[],_,_,h,_,_=>by simp at h
 |(n,kn)::r,x,k,h,hk,hc=>by
  have ih:=@ad0 env r x k;rw[eg6] at h;have hcn:kn≠.cell:=hc (n,kn) ec5
  have hr:∀y∈r,y.2≠.cell:=fun y hy=>hc y (ec7 _ hy)
  cases hx:x==n with
  |true=>
   have hxn:x=n:=eq_of_beq hx
   by_cases hcc:(kn==NameKind.free&&env.scope.kind== .function&&env.kindOf n==some .cell)=true
   · refine ⟨(n,kn),ec5,hxn.symm,?_⟩;simp only[eh9] at hcc
     simpa using hcc.1.1
   · dsimp only at h
     rw[if_neg hcc,ej7,hx] at h;have hkk:kn=k:=Option.some.inj h;subst hkk
     rcases hk with z|z
     · exact absurd z hcn
     · exact ⟨(n,kn),ec5,hxn.symm,z⟩
  |false=>
   by_cases hcc:(kn==NameKind.free&&env.scope.kind== .function&&env.kindOf n==some .cell)=true
   · dsimp only at h
     rw[if_pos hcc,ej7,hx] at h;obtain ⟨p,hp,q⟩:=ih h hk hr;exact ⟨p,ec7 _ hp,q⟩
   · dsimp only at h
     rw[if_neg hcc,ej7,hx] at h;obtain ⟨p,hp,q⟩:=ih h hk hr;exact ⟨p,ec7 _ hp,q⟩
theorem ac2 {env:Env}:∀{names:List (Str×NameKind)} {x:Str},names.lookup x=some .free->
   (names.map fun (n,k)=>if (k==NameKind.free&&env.scope.kind== .function&&env.kindOf n==some .cell) then (n,NameKind.cell) else (n,k)).lookup x=some .cell\/
   (names.map fun (n,k)=>if (k==NameKind.free&&env.scope.kind== .function&&env.kindOf n==some .cell) then (n,NameKind.cell) else (n,k)).lookup x=some .free
 |[],_,h=>by simp at h
 |(n,kn)::r,x,h=>by
  have ih:=@ac2 env r x;rw[eg6]
  dsimp only
  cases hx:x==n with
  |true=>
   rw[ej7,hx] at h;have hkn:kn= .free:=Option.some.inj h
   by_cases hcc:(kn==NameKind.free&&env.scope.kind== .function&&env.kindOf n==some .cell)=true
   · rw[if_pos hcc,ej7,hx];exact .inl rfl
   · rw[if_neg hcc,ej7,hx];exact .inr (congrArg some hkn)
  |false=>
   rw[ej7,hx] at h
   by_cases hcc:(kn==NameKind.free&&env.scope.kind== .function&&env.kindOf n==some .cell)=true
   · rw[if_pos hcc,ej7,hx];exact ih h
   · rw[if_neg hcc,ej7,hx];exact ih h
theorem K5.track {P:Program}{w:World}{H:Hp}{h:Heap}{a:Addr}{o:HO}(x:K5 P w H h)(hn:H a=none)(new:B0 P w (c9 H a o) h a o):K5 P w (c9 H a o) h:=fun b u e=>by
 by_cases hb:b=a
 · subst hb;rw[c8] at e;cases e;exact new
 · rw[g6 hb] at e
   exact (x b u e).stay (fun c v _ q=>q) (fun c q=>by rw[g6 (g7 q hn)];exact q) fun c xs q=>by rw[g6 (g7 q hn)];exact q
theorem bp8 {elt tg iter:Expr}{ifs:List Expr}{scope:Scope}{pos:Pos}{wi:TI}{g:TG}{tc:TT}{te:TE}{N:List Str}{nl:Nat}{fr:List Nat}
   (hc:X.calm=true) (hi:PI X tg iter wi) (hg:∀cl C s0 H0 ex,PG (Y3 X N scope cl C s0 H0 ex) tg g) (ht:∀cl C s0 H0 ex,bv9 (Y3 X N scope cl C s0 H0 ex) ifs tc)
   (he:∀cl C s0 H0 ex,PE (Y3 X N scope cl C s0 H0 ex) elt te) (ok:ax1 X N nl fr scope)
   {RR:Value->Addr->Result->Shared->Prop} {pins:List (Addr×Obj)} {s:Shared} {σ:St} {H:Hp} {Q:VK} (I:i4 X pins σ H s) (h:cj5 nl fr wi g tc te σ H Q)
   (hRR:∀D C s' H',i4 X pins σ H' s'->Q (.ref D) H'->aw4 X pins H' C->(∃m,s'.heap.Ns C m)->RR (.ref D) C (.ok .next) s'):
   wpAny (model X.prog X.w) X.A (eval iter X.env) (fun x s1=>wpAny (model X.prog X.w) X.A (pyIter x) (fun it s2=>wpAny (model X.prog X.w) X.A (newList []) (fun acc s3=>
     wpAny (model X.prog X.w) X.A (newFunctionEnv scope X.env.globals (J4 X.env scope.names []) [] X.env.qual none .none (some X.env)) (fun cenv s4=>
       codeAny (model X.prog X.w) X.A (.compStart (.ListComp elt [⟨tg,iter,ifs,0⟩] scope pos) 0 it acc {cenv with scope:=relabel scope X.env}) (RR acc cenv.locals) s4) X.xe s3) X.xe s2) X.xe s1) X.xe s:=by
 refine t7 (hi pins s σ H _ I h) fun v s1 h1=>t7 h1 fun itv s2 h2=> ?_
 obtain ⟨it,fp,tn,J,H2,rfl,I2,T,st2,f2,W,⟨m0,w0⟩,turn⟩:=h2;refine wpAny_newObj_type (wpAny_newFunctionEnv ok.cell (by intro y hy;simp at hy) (fun h1 hns1 hsb1=> ?_) ok.kind)
 dsimp only at hns1 hsb1 ⊢
 generalize hHH:s2.heap.push {cls:= .type "list",dict:=none,data:= .seq ([]:List Value).toArray}=HH at hns1 hsb1 ⊢
 have hC:HH.objs.size=s2.heap.objs.size+1:=by rw[<-hHH,Heap.size_push]
 have hDC:s2.heap.objs.size≠HH.objs.size:=by rw[hC];exact eh2 (Nat.lt_succ_self _)
 have hCle:s2.heap.objs.size<=HH.objs.size:=by rw[hC];exact er9 _
 have below:∀b,b < s2.heap.objs.size->b≠HH.objs.size/\b≠s2.heap.objs.size:=fun b hb=>⟨by rw[hC];exact eh2 (ew4 hb),eh2 hb⟩
 have old:∀b o,s2.heap.get? b=some o->h1.get? b=some o:=fun b o e=>hsb1.extBut b o (below b (Heap.lt_size e)).1 (Heap.get?_push_of_some _ (hHH▸Heap.get?_push_of_some _ e))
 have hacc:h1.get? s2.heap.objs.size=some {cls:= .type "list",data:= .seq ([]:List Value).toArray}:=hsb1.extBut _ _ hDC (Heap.get?_push_of_some _ (hHH▸Heap.get?_push_size _ rfl))
 have fplt:∀b∈fp,b < s2.heap.objs.size:=fun b hb=>by obtain ⟨o,e,_⟩:=T.obj 0 _ st2 b hb;exact Heap.lt_size e
 generalize hXd:Y3 X N scope (J4 X.env scope.names []) HH.objs.size s2 H2 fp=X'
 have hfreeC:∀p∈scope.names,p.2= .free->∃c,X.env.cells.lookup p.1=some c:=fun p hp hf=>I.ok.has p.1 (ok.free p hp hf)
 have cellsSub:∀y c,(J4 X.env scope.names []).lookup y=some c->X.env.cells.lookup y=some c:=bh7 X.env scope.names [] hfreeC (fun y c e=>by simp at e)
 have cellLt:∀y c,X.env.cells.lookup y=some c->c < s2.heap.objs.size:=fun y c e=>by obtain ⟨v,z⟩:=I2.cell y c e;exact z.lt
 have ok':X'.Ok:=by
   rw[<-hXd]
   refine ⟨I.ok.mod,?_,I.ok.glob,I.ok.blt,hCle,fun x y c e1 e2=>I.ok.inj x y c (cellsSub x c e1) (cellsSub y c e2),fun x hx=> ?_,fun x c hf=>(by cases hf),I.ok.hd,I.ok.frames,.inl rfl,
     fun b hb=>⟨(below b (fplt b hb)).1,fun x c e=>(f2 b hb).2.2.2.2.1 x c (cellsSub x c e)⟩,I2.bs,ed3 I.ok.bsz I2.sz,fun b o e hb=> ?_,fun b hb hfs=> ?_,I2.stack,I2.stkFree⟩
   · show (relabel scope X.env).kind= .function;exact ok.kind
   · have hx':∃p∈scope.names,p.1=x/\p.2= .free:=by
       rcases hx with z|z
       · exact ad0 z (.inl rfl) ok.cell
       · exact ad0 z (.inr rfl) ok.cell
     obtain ⟨p,hp,rfl,hpf⟩:=hx';exact ar1 X.env scope.names [] p hp hpf
   · rcases (f2 b hb).2.2.2.1 with z|z
     · exact I.ok.noex b o e z
     · exact absurd (ef5 (Heap.lt_size e) (ed3 I.ok.bsz z)) (em2 _)
   · rcases ee0.mp (I2.stkSub b hfs) with z|z
     · exact (f2 b hb).2.1 z
     · exact (f2 b hb).2.2.1 z
 have hX'd:X'.env.locals=HH.objs.size:=by rw[<-hXd];rfl
 have hX'c:X'.env.cells=J4 X.env scope.names []:=by rw[<-hXd];rfl
 have hX'pn:X'.pn=[]:=by rw[<-hXd];rfl
 have hX'ex:X'.ex=fp:=by rw[<-hXd];rfl
 have hX's0:X'.s₀=s2:=by rw[<-hXd];rfl
 have hX'H0:X'.H₀=H2:=by rw[<-hXd];rfl
 have hX'fs:X'.fs=J8 X.stack:=by rw[<-hXd];rfl
 have hX'xe:X'.xe=fun _ _=>False:=by rw[<-hXd];rfl
 have hX'A:X'.A=X.A:=by rw[<-hXd];rfl
 have hX'P:X'.prog=X.prog:=by rw[<-hXd];rfl
 have hX'w:X'.w=X.w:=by rw[<-hXd];rfl
 have hX'K:X'.K=X.K:=by rw[<-hXd];rfl
 have hX'calm:X'.calm=true:=by rw[<-hXd];exact hc
 have hX'env:X'.env=compEnvC scope (J4 X.env scope.names []) HH.objs.size X.env:=by rw[<-hXd];rfl
 have I':i4 X' [] (bh6 nl fr σ) H2 {s2 with heap:=h1,toks:=s2.toks+([]:List (Str×Value)).length}:=by
   refine ⟨ok',by rw[hX's0],I2.bare,?_,?_,fun x c e=> ?_,?_,fun x c e=> ?_,fun p hp=> ?_,?_,?_⟩
   · rw[hX'fs,hX'ex,hX'H0,hX's0];exact Un.kept old
   · obtain ⟨m,hn,hl⟩:=I2.loc;rw[hX'd];refine ⟨_,hns1,fun i x v e1 e2 e3=> ?_⟩
     have hN':N[i]? =some x:=by rw[<-hXd] at e1;exact e1
     unfold bh6 at e2
     have hi:¬i < nl:=fun hlt=>by
       rw[ee4 (by simpa using hlt),ex8,if_pos hlt] at e2;cases e2
     rw[ee8 (by simpa using hi),el7,ec1] at e2
     cases ej:fr[i - nl]? with
     |none=>rw[ej] at e2;cases e2
     |some j=>
      rw[ej] at e2;obtain ⟨y,y1,y2,y3,y4⟩:=ok.fr (i - nl) j ej
      have hii:nl+(i - nl)=i:=by omega
      rw[hii,hN'] at y1;have hxy:x=y:=Option.some.inj y1;subst hxy;have e2':(σ[j]?).join=some v:=Option.some.inj e2
      have e2'':σ[j]? =some (some v):=by
        cases hσ:σ[j]? with
        |none=>rw[hσ] at e2';cases e2'
        |some z=>rw[hσ] at e2';exact congrArg some e2'
      obtain ⟨u,r,l⟩:=hl j x v y2 e2'' y3;have hkX:=ok.free (x,.free) (PySem.mem_of_lookup y4) rfl;refine ⟨u,r,.inr ⟨?_,?_⟩⟩
      · rw[hX'env]
        rcases ac2 (env:=X.env) y4 with z|z
        · exact .inl z
        · exact .inr z
      · rcases l with ⟨k1,_⟩|⟨_,c,ec,hcell⟩
        · rcases hkX with z|z
          · rw[z] at k1;cases k1
          · rw[z] at k1;cases k1
        · obtain ⟨c',ec'⟩:=ar1 X.env scope.names [] (x,.free) (PySem.mem_of_lookup y4) rfl
          have:c'=c:=by
            have q:=cellsSub x c' ec';rw[ec] at q;exact (Option.some.inj q).symm
          subst this;refine ⟨c',by rw[hX'c];exact ec',?_⟩;obtain ⟨oc,ho,hd⟩:=hcell;exact ⟨oc,old _ _ ho,hd⟩
   · rw[hX'c] at e;obtain ⟨v,oc,ho,hd⟩:=I2.cell x c (cellsSub x c e);exact ⟨v,oc,old _ _ ho,hd⟩
   · rw[hX'd];exact I2.hok.fresh hCle
   · rw[hX'c] at e;exact I2.freeC x c (cellsSub x c e)
   · rw[hX'pn] at hp;simp at hp
   · rw[hX'P,hX'w];exact I2.hok.kept old
   · unfold bh6
     have:X'.N=N:=by rw[<-hXd];rfl
     rw[this,ok.len,ec6,el7,eb7]
 have Dn:∀{H':Hp} {pins'} {s':Shared} {σ'},i4 X' pins' σ' H' s'->H' s2.heap.objs.size=none->∀o,s'.heap.get? s2.heap.objs.size=some o->(∀v,o.data≠.cell v)->i4 X' [(s2.heap.objs.size,o)] σ' H' s':=fun {H' pins' s' σ'} I3 hD o ho hnc=>
   I3.pins_of fun p hp=>by
     have e:p=(s2.heap.objs.size,o):=by simpa using hp
     subst e;refine ⟨ho,hD,by rw[hX'd];exact hDC,?_,hnc⟩;rw[hX'fs];intro hb
     rcases ee0.mp (I2.stkSub _ hb) with z|z
     · exact absurd (z▸I2.lt) (em2 _)
     · exact I2.nofs (ec0 _) z
 have loop:∀s₃:Shared,s₃={s2 with heap:=h1,toks:=s2.toks+([]:List (Str×Value)).length}->
     codeAny (model X.prog X.w) X.A (.compLoop (.ListComp elt [⟨tg,iter,ifs,0⟩] scope pos) 0 (.ref it) (.ref s2.heap.objs.size) (compEnvC scope (J4 X.env scope.names []) HH.objs.size X.env)) (RR (.ref s2.heap.objs.size) HH.objs.size) s₃:=by
   rintro s₃ rfl
   refine bw0 (fun n s'=>∃(i:Nat) (σ':St) (H':Hp) (ys:List V) (its:List Value) (k:Nat),i4 X' [(s2.heap.objs.size,{cls:= .type "list",data:= .seq its.toArray k})] σ' H' s'/\l8 ys its/\ys.length<=sizeLine/\tn i s'.heap/\(∀b∈fp,H' b=none)/\W i n ys σ' H')
     ?_ m0 ⟨0,_,H2,[],[],0,Dn I' (I2.hok.fresh (ec0 _)) _ hacc (fun v z=>by cases z),.nil,ed7 _,T.keep 0 _ _ st2 fun b hb o e=>old b o e,fun b hb=>(f2 b hb).1,w0⟩
   rintro n s3 ⟨i,σ3,H3,ys,its,k,I3,rv,hyl,st3,fr3,w3⟩;have pinD:=I3.pin (s2.heap.objs.size,{cls:= .type "list",data:= .seq its.toArray k}) (by rw[hX'pn];exact ed8 _ ec5)
   have stat:∀{o:Obj} {H':Hp},(∀b∈fp,H' b=none)->∀b∈fp,aw4 X' [(s2.heap.objs.size,o)] H' b:=fun {o H'} hn b hb=>by
     refine ⟨hn b hb,by rw[hX'd];exact (below b (fplt b hb)).1,fun z=>ok'.exfs b (by rw[hX'ex];exact hb) z,.inl (by rw[hX'ex];exact hb),fun x c e=>by rw[hX'c] at e;exact (f2 b hb).2.2.2.2.1 x c (cellsSub x c e),fun p hp=> ?_⟩;rw[hX'pn] at hp
     have e:p=(s2.heap.objs.size,o):=by simpa using hp
     subst e
     exact fun z=>(below b (fplt b hb)).2 z.symm
   rcases turn i n ys σ3 H3 w3 with ⟨stop,qn⟩|⟨go,Nx,hNx,step⟩
   · have dn:=T.done X' hX'P hX'w hX'K hX'calm i _ s3 σ3 H3 (fun _ _=>False) I3 (stat fr3) st3 stop;rw[hX'A] at dn
     refine t7 dn fun r s4 ⟨hr,I4⟩=> ?_
     subst hr;have pinE:=I4.pin (s2.heap.objs.size,{cls:= .type "list",data:= .seq its.toArray k}) (by rw[hX'pn];exact ed8 _ ec5)
     have ub:Un (J8 X.stack) fp H2 H3 s2.heap s4.heap:=by
       have:=I4.base;rw[hX'fs,hX'ex,hX'H0,hX's0] at this;exact this
     have hok4:K5 X.prog X.w H3 s4.heap:=by have:=I4.hok;rw[hX'P,hX'w] at this;exact this
     have nD:∀b u,H3 b=some u->b≠s2.heap.objs.size:=fun b u e z=>by rw[z,pinE.2.1] at e;cases e
     have u2:Un (J8 X.stack) fp H2 (c9 H3 s2.heap.objs.size (.lst ys)) s2.heap s4.heap:=
       ⟨ub.keep,ub.slot,fun b o e n' hx=>by rw[g6 (eh2 (Heap.lt_size e))];exact ub.free b o e n' hx,ub.there,
         fun b xs e=>by have:=ub.tups b xs e;rw[g6 (nD b _ this)];exact this,fun b o u e=>by have:=ub.frzs b o u e;rw[g6 (nD b _ this)];exact this,
         fun b ps e=>by obtain ⟨more,z⟩:=ub.tbls b ps e;exact ⟨more,by rw[g6 (nD b _ z)];exact z⟩⟩
     have I5:i4 X pins σ (c9 H3 s2.heap.objs.size (.lst ys)) s4:=by
       refine I2.call' (by rw[I4.os,hX's0]) u2 ?_ I4.bare fun b hb=>⟨(f2 b hb).2.2.2.1,(f2 b hb).2.1,(f2 b hb).2.2.2.2.1,(f2 b hb).2.2.2.2.2⟩
       exact K5.track hok4 pinE.2.1 ⟨hyl,its,k,rv,pinE.1⟩
     refine hRR _ _ s4 _ I5 (qn _ pinE.2.1) (I2.fpOk hCle ?_) ?_
     · rw[g6 (Ne.symm hDC)];have:=I4.free;rw[hX'd] at this;exact this
     · obtain ⟨m,hn,_⟩:=I4.loc;rw[hX'd] at hn;exact ⟨m,hn⟩
   · have im:=T.item X' hX'P hX'w hX'K hX'calm i _ s3 σ3 H3 (fun _ _=>False) I3 (stat fr3) st3 go;rw[hX'A] at im
     refine t7 im fun r s4 ⟨u,hr,h4⟩=> ?_
     subst hr
     refine t7 h4 fun _ s5 ⟨x,H5,I5,r5,y5,st5,fr5⟩=> ?_
     have I5':=I5.pinned (stat fr5) (T.obj _ _ st5);have gg:=hg (J4 X.env scope.names []) HH.objs.size s2 H2 fp;rw[hXd] at gg;have gg:=gg _ s5 σ3 H5 x u _ I5' r5 (step x H5 y5);rw[hX'A,hX'P,hX'w,hX'xe,hX'env] at gg
     refine t7 gg fun _ s6 ⟨σ6,H6,I6,q6⟩=> ?_
     have tt:=ht (J4 X.env scope.names []) HH.objs.size s2 H2 fp;rw[hXd] at tt;have tt:=tt _ s6 σ6 H6 _ I6 q6;rw[hX'A,hX'P,hX'w,hX'xe,hX'env] at tt
     refine t7 tt fun ok7 s7 ⟨H7,I7,q7⟩=> ?_
     have again:∀{s8:Shared} {σ8:St} {H8:Hp} {ys8:List V} {its8:List Value} {k8:Nat},i4 X' ([(s2.heap.objs.size,{cls:= .type "list",data:= .seq its8.toArray k8})]++ah7 fp s5.heap) σ8 H8 s8->l8 ys8 its8->ys8.length<=sizeLine->Nx ys8 σ8 H8->
         ∃m,m < n/\∃(i:Nat) (σ':St) (H':Hp) (ys:List V) (its:List Value) (k:Nat),i4 X' [(s2.heap.objs.size,{cls:= .type "list",data:= .seq its.toArray k})] σ' H' s8/\l8 ys its/\ys.length<=sizeLine/\tn i s8.heap/\(∀b∈fp,H' b=none)/\W i m ys σ' H':=
       fun {s8 σ8 H8 ys8 its8 k8} I8 rv8 hl8 n8=>by
         obtain ⟨m',hm,w8⟩:=hNx ys8 σ8 H8 n8;refine ⟨m',hm,i+1,σ8,H8,ys8,its8,k8,I8.unpinned,rv8,hl8,T.keep _ _ _ st5 fun b hb o e=>(I8.pin (b,o) (ed8 _ (ed8 _ (ag6 hb e)))).1,fun b hb=> ?_,w8⟩;obtain ⟨o,e,d⟩:=T.obj _ _ st5 b hb;exact (I8.pin (b,o) (ed8 _ (ed8 _ (ag6 hb e)))).2.1
     cases ok7 with
     |false=>
      rw[if_neg ee2] at q7 ⊢;exact again I7 rv hyl q7
     |true=>
      rw[if_pos rfl] at q7 ⊢;have ee:=he (J4 X.env scope.names []) HH.objs.size s2 H2 fp;rw[hXd] at ee;have ee:=ee _ s7 σ6 H7 _ I7 q7;rw[hX'A,hX'P,hX'w,hX'xe,hX'env] at ee
      refine t7 ee fun yv s8 ⟨y,H8,I8,r8,hyl8,q8⟩=> ?_
      have pin8:=I8.pin (s2.heap.objs.size,{cls:= .type "list",data:= .seq its.toArray k}) (ed8 _ (ef7 _ ec5));refine wpAny_list_append_plain (items:=its.toArray) ⟨k,pin8.1⟩ (fun h9 hp9 hs9=> ?_) (by rw[ed4,<-rv.length];exact hyl);obtain ⟨k9,e9⟩:=hp9
      have I9:i4 X' (ah7 fp s5.heap) σ6 H8 s8:=I8.pins_of fun p hp=>I8.pin p (ed8 _ (ed8 _ hp))
      have I9':i4 X' (ah7 fp s5.heap) σ6 H8 {s8 with heap:=h9,toks:=s8.toks}:=by
        refine I9.turned (t':=s8.toks) (it:=s2.heap.objs.size) (fun b o hb e=>hs9.extBut b o hb e) pin8.2.1 (by rw[hX'd];exact hDC) (.inr (by rw[hX's0];exact ec0 _)) (fun x c e z=> ?_) fun p hp z=> ?_
        · rw[hX'c] at e;exact absurd (z▸cellLt x c (cellsSub x c e)) (em2 _)
        · rw[hX'pn] at hp;obtain ⟨hb,_⟩:=bo8 (by simpa using hp);exact absurd (z▸fplt _ hb) (em2 _)
      have e9':h9.get? s2.heap.objs.size=some {cls:= .type "list",data:= .seq (its++[yv]).toArray k9}:=by rw[e9];simp
      refine again (ys8:=ys++[y]) (its8:=its++[yv]) (k8:=k9) ?_ (l8.append rv (.cons r8 .nil)) (by rw[ec6];exact hyl8) q8
      refine I9'.pins_of fun p hp=> ?_
      rcases ed0.mp hp with z|z
      · have e:p=(s2.heap.objs.size,{cls:= .type "list",data:= .seq (its++[yv]).toArray k9}):=by simpa using z
        subst e;exact ⟨e9',pin8.2.1,pin8.2.2.1,pin8.2.2.2.1,fun v z=>by cases z⟩
      · exact I9'.pin p (ed8 _ z)
 exact codeAny_compStart_list (loop _ rfl) (T.self X.A 0 _ _ _ (T.keep 0 _ _ st2 fun b hb o e=>old b o e) (loop _ rfl))
end
end L2
namespace L2
open PySem PySem.Spec PyProof.Rows
section
variable {X:Cx}
theorem U6 {elt tg iter:Expr}{ifs:List Expr}{scope:Scope}{pos:Pos}{wi:TI}{g:TG}{tc:TT}{te:TE}{N:List Str}{nl:Nat}{fr:List Nat}
   (hc:X.calm=true) (ok:ax1 X N nl fr scope) (hi:PI X tg iter wi) (hg:∀cl C s0 H0 ex,PG (Y3 X N scope cl C s0 H0 ex) tg g) (ht:∀cl C s0 H0 ex,bv9 (Y3 X N scope cl C s0 H0 ex) ifs tc)
   (he:∀cl C s0 H0 ex,PE (Y3 X N scope cl C s0 H0 ex) elt te) (hs:∀x,foldedSetIterable iter X.env x=pure x:=by intro _;rfl):
   PE X (.ListComp elt [⟨tg,iter,ifs,0⟩] scope pos) (cj5 nl fr wi g tc te):=by
 intro pins s σ H Q I h
 have hclos:closureFor scope X.env=pure (J4 X.env scope.names []):=av8 fun p hp hf=>I.ok.has p.1 (ok.free p hp hf)
 rw[eval_ListComp];refine wpAny_comprehension_free (use:=none) rfl hs hclos ok.kind ok.names (bp8 (RR:=fun acc C=>compPost (model X.prog X.w) X.A X.xe none (EP X pins σ Q) acc C) hc hi hg ht he ok I h ?_);intro D C s' H' I' q f ⟨m,hn⟩;exact ⟨m,hn,fun h' hs'=>⟨.ref D,H',I'.turned (t':=s'.toks) (fun b o hb e=>hs'.extBut b o hb e) f.1 f.2.1 f.2.2.2.1 f.2.2.2.2.1 f.2.2.2.2.2,rfl,q⟩⟩
theorem bl2 {i:Nat}{y:Str}{py spos:Pos}{elt tg iter:Expr}{ifs:List Expr}{scope:Scope}{pos:Pos}{wi:TI}{g:TG}{tc:TT}{te:TE}{N:List Str}{nl:Nat}{fr:List Nat}
   (hN:X.N.Nodup) (hi':X.N[i]? =some y) (hx:Loc X.env.scope y)
   (hc:X.calm=true) (ok:ax1 X N nl fr scope) (hi:PI X tg iter wi) (hg:∀cl C s0 H0 ex,PG (Y3 X N scope cl C s0 H0 ex) tg g) (ht:∀cl C s0 H0 ex,bv9 (Y3 X N scope cl C s0 H0 ex) ifs tc)
   (he:∀cl C s0 H0 ex,PE (Y3 X N scope cl C s0 H0 ex) elt te) (hsw:swapsWith (.ListComp elt [⟨tg,iter,ifs,0⟩] scope pos) (some (.Name y py)) spos.line X.env=pure true:=by rfl)
   (hs:∀x,foldedSetIterable iter X.env x=pure x:=by intro _;rfl)
   (hf:X.fn y=true\/X.env.scope.names.lookup y=some .local:=by first|exact .inl rfl|exact .inr rfl|assumption):
   PS X (.Assign [.Name y py] (.ListComp elt [⟨tg,iter,ifs,0⟩] scope pos) spos) (ci4 (cj5 nl fr wi g tc te) (bt4 i)):=by
 intro pins s σ H Dn I h
 have hclos:closureFor scope X.env=pure (J4 X.env scope.names []):=av8 fun p hp hf=>I.ok.has p.1 (ok.free p hp hf)
 rw[exec_Assign_Name_used _ _ _ _ hsw];refine wpAny_bind (wpAny_standAt (wpAny_bind ?_));show wpAny _ X.A (do let _ <-comprehension (.ListComp elt [⟨tg,iter,ifs,0⟩] scope pos) scope X.env _ (newList []) false (eval iter X.env) (some (assign (.Name y py) X.env))) _ _ s
 refine wpAny_bind (wpAny_mono (wpAny_comprehension_free (use:=some (assign (.Name y py) X.env)) (Q:=fun _ s'=>SP X pins Dn .next s') rfl hs hclos ok.kind ok.names
   (bp8 (RR:=fun acc C=>compPost (model X.prog X.w) X.A X.xe (some (assign (.Name y py) X.env)) (fun _ s'=>SP X pins Dn .next s') acc C) hc hi hg ht he ok I h ?_)) (fun _ s' hq=>wpAny_pure (wpAny_pure hq)) fun _ _ e=>e)
 intro D C s' H' I' q f ⟨m,hn⟩;show wpAny _ X.A (assign (.Name y py) X.env (.ref D)) _ _ _;refine wpAny_assign_Name (bo6 I' hN hi' hx (v:= .ref D) rfl (fun s2 I2 ⟨a,sb,ha⟩=> ?_) hf)
 have hCa:C≠a:=by
   rcases ha with z|z
   · rw[z];exact f.2.1
   · exact fun e=>f.2.2.2.2.1 _ _ z e.symm
 exact ⟨m,hn.sameBut sb hCa,fun h' hs'=>⟨_,H',I2.turned (t':=s2.toks) (fun b o hb e=>hs'.extBut b o hb e) f.1 f.2.1 f.2.2.2.1 f.2.2.2.2.1 f.2.2.2.2.2,q⟩⟩
theorem Z9 {K:PySem.W.Frag}{a:Addr}{xs:List V}{g:TG}{tc:TT}{te:TE}{σ0:St}{H:Hp}{Q:VK}(Pv:Nat->List V->St->Hp->Prop)(h0:Pv 0 [] σ0 H)(hl:∀i ys σ H,i<=xs.length->Pv i ys σ H->g9 K H a xs)
   (hs:∀i x ys σ H,xs[i]? =some x->Pv i ys σ H->g x σ H fun σ2 H2=>tc σ2 H2 fun b H4=>if b=true then te σ2 H4 fun y H5=>ys.length < sizeLine/\Pv (i+1) (ys++[y]) σ2 H5 else Pv (i+1) ys σ2 H4)
   (hd:∀ys σ H,Pv xs.length ys σ H->∀D,H D=none->Q (.ref D) (c9 H D (.lst ys))):
   cj4 (Itl K a) g tc te Q σ0 H:=by
 refine ⟨fun i m ys σ H=>m=xs.length - i/\i<=xs.length/\Pv i ys σ H,⟨xs.length,by simp,ed7 _,h0⟩,?_⟩;rintro i m ys σ H ⟨rfl,hi,p⟩;have q:=hl i ys σ H hi p
 by_cases hlt:i < xs.length
 · refine .inr ⟨⟨xs,xs[i],q,by simp [hlt]⟩,Pv (i+1),fun ys' σ' H' p'=>⟨xs.length - (i+1),by omega,rfl,hlt,p'⟩,fun x H' y=> ?_⟩;obtain ⟨e,y⟩:=y;subst e;exact hs i x ys σ _ (y xs q) p
 · have e:i=xs.length:=by omega
   subst e;exact .inl ⟨⟨xs,q,ec0 _⟩,hd ys σ H p⟩
theorem S8 {lo:Int}{n:Nat}{g:TG}{tc:TT}{te:TE}{σ0:St}{H:Hp}{Q:VK}(Pv:Nat->List V->St->Hp->Prop)(h0:Pv 0 [] σ0 H)
   (hs:∀i ys σ H,i < n->Pv i ys σ H->g (.int (lo+i)) σ H fun σ2 H2=>tc σ2 H2 fun b H4=>if b=true then te σ2 H4 fun y H5=>ys.length < sizeLine/\Pv (i+1) (ys++[y]) σ2 H5 else Pv (i+1) ys σ2 H4)
   (hd:∀ys σ H,Pv n ys σ H->∀D,H D=none->Q (.ref D) (c9 H D (.lst ys))):
   cj4 (Itr lo n) g tc te Q σ0 H:=by
 refine ⟨fun i m ys σ H=>m=n - i/\i<=n/\Pv i ys σ H,⟨n,by simp,ed7 _,h0⟩,?_⟩;rintro i m ys σ H ⟨rfl,hi,p⟩
 by_cases hlt:i < n
 · refine .inr ⟨hlt,Pv (i+1),fun ys' σ' H' p'=>⟨n - (i+1),by omega,rfl,hlt,p'⟩,fun x H' y=> ?_⟩;obtain ⟨e,y⟩:=y;subst e y;exact hs i ys σ _ hlt p
 · have e:i=n:=by omega
   subst e;exact .inl ⟨ec0 _,hd ys σ H p⟩
inductive EqD (K:PySem.W.Frag)(H:Hp):Nat->V->V->Bool->Prop where
 |flat {n:Nat} {x y:V}:Q2 x=true->Q2 y=true->EqD K H n x y (eqV x y)
 |same {n:Nat} (a:Addr):EqD K H n (.ref a) (.ref a) true
 |lists {n:Nat} {a b:Addr} {xs ys:List V} (e:Nat->Bool):a≠b->g9 K H a xs->g9 K H b ys->xs.length=ys.length->(∀(j:Nat) x y,xs[j]? =some x->ys[j]? =some y->EqD K H n x y (e j))->EqD K H (n+1) (.ref a) (.ref b) ((ef4 xs.length).all e)
 |lens {n:Nat} {a b:Addr} {xs ys:List V}:a≠b->g9 K H a xs->g9 K H b ys->xs.length≠ys.length->EqD K H (n+1) (.ref a) (.ref b) false
theorem cp1 {pins:List (Addr×Obj)}{σ:St}{H:Hp}{s:Shared}(I:i4 X pins σ H s){n:Nat}{x y:V}{b:Bool}(d:EqD X.K H n x y b):
   ∀{A:Around} {u v:Value},A.units+n < cLine->o7 x u->o7 y v->SeqAt.EqAt A s u v b:=by
 induction d with
 |flat fx fy=>intro A u v _ rx ry;exact co1 rx ry fx fy
 |same a=>intro A u v _ rx ry;cases rx;cases ry;exact SeqAt.EqAt.same _
 |@lists n a c xs ys e ne ha hb hl _ ih=>
  intro A u v hu rx ry;cases rx;cases ry;obtain ⟨its,r1,p1,_⟩:=I.list ha;obtain ⟨its2,r2,p2,_⟩:=I.list hb;have l1:=r1.length;have l2:=r2.length;refine SeqAt.EqAt.of_refs ne ?_
  have q:=SeqAt.RcAt.lists (A:=A) (e:=e) p1.isList p2.isList (by rw[ed4,ed4];omega) (by omega) (fun j h1 h2=>by
    have h1':j < its.length:=by simpa using h1
    have h2':j < its2.length:=by simpa using h2
    have e1:xs[j]? =some (xs[j]'(by omega)):=eb8 _;have e2:ys[j]? =some (ys[j]'(by omega)):=eb8 _;obtain ⟨u1,z1,q1⟩:=r1.get e1;obtain ⟨u2,z2,q2⟩:=r2.get e2
    have w1:its.toArray[j]=u1:=by
      rw[eb8 h1'] at z1
      simpa using z1
    have w2:its2.toArray[j]=u2:=by
      rw[eb8 h2'] at z2
      simpa using z2
    rw[w1,w2]
    exact ih j _ _ e1 e2 (by show A.in1.units+n < cLine;have:A.in1.units=A.units+1:=by first|rfl|simp [Around.in1]
                             omega) q1 q2)
  rw[ed4,<-l1] at q;exact q
 |lens ne ha hb hl=>
  intro A u v hu rx ry;cases rx;cases ry;obtain ⟨its,r1,p1,_⟩:=I.list ha;obtain ⟨its2,r2,p2,_⟩:=I.list hb;have l1:=r1.length;have l2:=r2.length;exact SeqAt.EqAt.of_refs ne (SeqAt.RcAt.lists_lengths p1.isList p2.isList (by rw[ed4,ed4];simp;omega) (by omega))
def LEq (K:PySem.W.Frag)(H:Hp)(n:Nat)(xs ys:List V)(r:Bool):Prop:=
 (xs.length≠ys.length/\r=false)\/(∃e:Nat->Bool,xs.length=ys.length/\(∀(j:Nat) x y,xs[j]? =some x->ys[j]? =some y->EqD K H n x y (e j))/\r=(ef4 xs.length).all e)
theorem dn0 {pins:List (Addr×Obj)}{σ:St}{H:Hp}{s:Shared}(I:i4 X pins σ H s){A:Around}{n:Nat}{a b:Addr}{xs ys:List V}{r:Bool}(hu:A.units+n+1 < cLine)(ha:g9 X.K H a xs)(hb:g9 X.K H b ys)(d:LEq X.K H n xs ys r):
   SeqAt.RcAt A s (.ref a) (.ref b) r:=by
 obtain ⟨its,r1,p1,_⟩:=I.list ha;obtain ⟨its2,r2,p2,_⟩:=I.list hb;have l1:=r1.length;have l2:=r2.length
 rcases d with ⟨hl,rfl⟩|⟨e,hl,he,rfl⟩
 · exact SeqAt.RcAt.lists_lengths p1.isList p2.isList (by rw[ed4,ed4];simp;omega) (by omega)
 · have q:=SeqAt.RcAt.lists (A:=A) (e:=e) p1.isList p2.isList (by rw[ed4,ed4];omega) (by omega) (fun j h1 h2=>by
     have h1':j < its.length:=by simpa using h1
     have h2':j < its2.length:=by simpa using h2
     have e1:xs[j]? =some (xs[j]'(by omega)):=eb8 _;have e2:ys[j]? =some (ys[j]'(by omega)):=eb8 _;obtain ⟨u1,z1,q1⟩:=r1.get e1;obtain ⟨u2,z2,q2⟩:=r2.get e2
     have w1:its.toArray[j]=u1:=by
       rw[eb8 h1'] at z1
       simpa using z1
     have w2:its2.toArray[j]=u2:=by
       rw[eb8 h2'] at z2
       simpa using z2
     rw[w1,w2]
     exact cp1 I (he j _ _ e1 e2) (by show A.in1.units+n < cLine;have:A.in1.units=A.units+1:=by first|rfl|simp [Around.in1]
                                      omega) q1 q2)
   rw[ed4,<-l1] at q;exact q
end
end L2
namespace L2
open PySem PySem.Spec PyProof.Rows
section
variable {X:Cx}
theorem cx7 {pins:List (Addr×Obj)}{σ:St}{H:Hp}{s:Shared}(I:i4 X pins σ H s){A:Around}{n:Nat}{a b:Addr}{xs ys:List V}{r:Bool}(hu:A.units+n+1 < cLine)(ha:g9 X.K H a xs)(hb:g9 X.K H b ys)(d:LEq X.K H n xs ys r):
   SeqAt.RcNeAt A s (.ref a) (.ref b) (!r):=by
 obtain ⟨its,r1,p1,_⟩:=I.list ha;obtain ⟨its2,r2,p2,_⟩:=I.list hb;have l1:=r1.length;have l2:=r2.length
 rcases d with ⟨hl,rfl⟩|⟨e,hl,he,rfl⟩
 · exact SeqAt.RcNeAt.lists_lengths p1.isList p2.isList (by rw[ed4,ed4];simp;omega) (by omega)
 · have q:=SeqAt.RcNeAt.lists (A:=A) (e:=e) p1.isList p2.isList (by rw[ed4,ed4];omega) (by omega) (fun j h1 h2=>by
     have h1':j < its.length:=by simpa using h1
     have h2':j < its2.length:=by simpa using h2
     have e1:xs[j]? =some (xs[j]'(by omega)):=eb8 _;have e2:ys[j]? =some (ys[j]'(by omega)):=eb8 _;obtain ⟨u1,z1,q1⟩:=r1.get e1;obtain ⟨u2,z2,q2⟩:=r2.get e2
     have w1:its.toArray[j]=u1:=by
       rw[eb8 h1'] at z1
       simpa using z1
     have w2:its2.toArray[j]=u2:=by
       rw[eb8 h2'] at z2
       simpa using z2
     rw[w1,w2]
     exact cp1 I (he j _ _ e1 e2) (by show A.in1.units+n < cLine;have:A.in1.units=A.units+1:=by first|rfl|simp [Around.in1]
                                      omega) q1 q2)
   rw[ed4,<-l1] at q;exact q
def cj6 (K:PySem.W.Frag)(n:Nat)(neg:Bool):R2:=fun x y H Q=>∃a b xs ys r,x= .ref a/\y= .ref b/\g9 K H a xs/\g9 K H b ys/\LEq K H n xs ys r/\Q (.bl (if neg then !r else r)) H
theorem ao4 (n:Nat)(hu:X.A.units+n+1 < cLine):O7 X (compareOp .Eq) (cj6 X.K n false):=by
 intro pins s σ H x y v u Q I rx ry h;obtain ⟨a,b,xs,ys,r,rfl,rfl,ha,hb,d,q⟩:=h;cases rx;cases ry;exact dn0 I hu ha hb d _ _ _ _ ⟨.bl r,H,I,rfl,q⟩
theorem ae7 (n:Nat)(hu:X.A.units+n+1 < cLine):O7 X (compareOp .NotEq) (cj6 X.K n true):=by
 intro pins s σ H x y v u Q I rx ry h;obtain ⟨a,b,xs,ys,r,rfl,rfl,ha,hb,d,q⟩:=h;cases rx;cases ry;exact cx7 I hu ha hb d _ _ _ _ ⟨.bl (!r),H,I,rfl,q⟩
theorem af7 {n:Nat}{e:Nat->Bool}:(ef4 n).all e=true↔∀j,j < n->e j=true:=by
 rw[em9];exact ⟨fun h j hj=>h j (eg0.mpr hj),fun h j hj=>h j (eg0.mp hj)⟩
theorem Q9 (K:PySem.W.Frag)(H:Hp)(n:Nat)(ns ms:List Int):LEq K H n (ns.map V.int) (ms.map V.int) (decide (ns=ms)):=by
 by_cases hl:ns.length=ms.length
 · refine .inr ⟨fun j=>decide (ns[j]? =ms[j]?),by simpa using hl,fun j x y e1 e2=> ?_,?_⟩
   · rw[ec1] at e1 e2
     cases h1:ns[j]? with
     |none=>rw[h1] at e1;cases e1
     |some a=>
      cases h2:ms[j]? with
      |none=>rw[h2] at e2;cases e2
      |some b=>
       rw[h1] at e1;rw[h2] at e2;cases e1;cases e2;have q:EqD K H n (V.int a) (V.int b) (eqV (V.int a) (V.int b)):= .flat rfl rfl
       have e:eqV (V.int a) (V.int b)=decide (some a=some b):=by
         show (a==b)=_
         by_cases z:a=b
         · subst z;simp
         · rw[decide_eq_false (fun w=>z (Option.some.inj w))];simpa using z
       rw[e] at q;show EqD K H n _ _ (decide (ns[j]? =ms[j]?));rw[h1,h2];exact q
   · rw[en4,decide_eq_true_iff,af7];constructor
     · intro h j _;subst h;simp
     · intro h
       refine eg4 fun j=> ?_
       by_cases hj:j < ns.length
       · exact of_decide_eq_true (h j (by simpa using hj))
       · rw[ed1 (by omega),ed1 (by omega)]
 · refine .inl ⟨by simpa using hl,?_⟩
   exact decide_eq_false fun h=>hl (by rw[h])
def dn1 (K:PySem.W.Frag)(H:Hp)(as:List Addr)(rs:List (List Int)):Prop:=as.length=rs.length/\∀(j:Nat) a r,as[j]? =some a->rs[j]? =some r->g9 K H a (r.map V.int)
theorem dz1 {K:PySem.W.Frag}{H:Hp}{as bs:List Addr}{rs qs:List (List Int)}(ha:dn1 K H as rs)(hb:dn1 K H bs qs)(inj:∀p xs ys,g9 K H p xs->g9 K H p ys->xs=ys):LEq K H 1 (as.map V.ref) (bs.map V.ref) (decide (rs=qs)):=by
 by_cases hl:as.length=bs.length
 · refine .inr ⟨fun j=>decide (rs[j]? =qs[j]?),by simpa using hl,fun j x y e1 e2=> ?_,?_⟩
   · rw[ec1] at e1 e2
     cases h1:as[j]? with
     |none=>rw[h1] at e1;cases e1
     |some a=>
      cases h2:bs[j]? with
      |none=>rw[h2] at e2;cases e2
      |some b=>
       rw[h1] at e1;rw[h2] at e2;cases e1;cases e2;have j1:j < as.length:=(eb9.mp h1).1;have k1:rs[j]? =some (rs[j]'(by rw[<-ha.1];exact j1)):=eb8 _;have k2:qs[j]? =some (qs[j]'(by rw[<-hb.1,<-hl];exact j1)):=eb8 _;have q1:=ha.2 j a _ h1 k1;have q2:=hb.2 j b _ h2 k2;show EqD K H 1 _ _ (decide (rs[j]? =qs[j]?));rw[k1,k2]
       by_cases hab:a=b
       · subst hab;have e:(rs[j]'(by rw[<-ha.1];exact j1)).map V.int=(qs[j]'(by rw[<-hb.1,<-hl];exact j1)).map V.int:=inj a _ _ q1 q2;have e':=List.map_inj_right (fun x y (h:V.int x=V.int y)=>V.int.inj h)|>.mp e;rw[e',decide_eq_true rfl];exact .same a
       · generalize (rs[j]'(by rw[<-ha.1];exact j1))=r at q1 ⊢;generalize (qs[j]'(by rw[<-hb.1,<-hl];exact j1))=q at q2 ⊢
         rcases Q9 K H 0 r q with ⟨h3,h4⟩|⟨e,h3,h4,h5⟩
         · have:=EqD.lens (n:=0) hab q1 q2 h3
           rw[decide_eq_false (fun z=>by
             have z':r=q:=Option.some.inj z
             exact h3 (by rw[z']))]
           exact this
         · have:=EqD.lists (n:=0) e hab q1 q2 h3 h4;rw[<-h5] at this
           have e6:decide (r=q)=decide (some r=some q):=by
             by_cases z:r=q
             · subst z;simp
             · rw[decide_eq_false z,decide_eq_false fun w=>z (Option.some.inj w)]
           rw[<-e6];exact this
   · rw[en4,decide_eq_true_iff,af7];constructor
     · intro h j _;subst h;simp
     · intro h
       refine eg4 fun j=> ?_
       by_cases hj:j < rs.length
       · exact of_decide_eq_true (h j (by rw[eb7,ha.1];exact hj))
       · rw[ed1 (by omega),ed1 (by rw[<-hb.1,<-hl,ha.1];omega)]
 · refine .inl ⟨by simpa using hl,?_⟩
   exact decide_eq_false fun h=>hl (by rw[ha.1,hb.1,h])
theorem cc8:W9 X (.type "range") (fun xs H Q=>∃j,xs=[.int j]/\∀p,H p=none->Q (.ref p) (c9 H p (.rng 0 j))):=by
 intro pins s σ H xs us Q I r h;obtain ⟨j,rfl,q⟩:=h;obtain ⟨u,rfl,⟨t,rfl⟩⟩:=ak7 r;refine call_range_1 ⟨.ref s.heap.objs.size,_,I.laid (fun b o e=>Heap.get?_push_of_some _ e) (ec0 _) ?_,rfl,q _ (I.hok.fresh (ec0 _))⟩;exact ⟨_,_,_,Heap.get?_push_size _ rfl⟩
def Y0 (lo:Int)(n:Nat):List Int:=(ef4 n).map fun (i:Nat)=>lo+(i:Int)
theorem cj7 {lo:Int}{n:Nat}{acc:Array Value}(h:ItemsOf (fun i v=>∃t,v=Value.int (lo+(i:Int)*1) t) acc n):l8 ((Y0 lo n).map V.int) acc.toList:=by
 obtain ⟨hs,hv⟩:=h
 have key:∀(l:List Value) (k:Nat),(∀(j:Nat) v,l[j]? =some v->∃t,v=Value.int (lo+((k+j:Nat):Int)) t)->l8 (((ef4 l.length).map fun (i:Nat)=>lo+((k+i:Nat):Int)).map V.int) l:=by
   intro l
   induction l with
   |nil=>intro k _;exact .nil
   |cons v r ih=>
    intro k hk
    have e:(((ef4 r.length).map Nat.succ).map fun (i:Nat)=>lo+((k+i:Nat):Int))=(ef4 r.length).map fun (i:Nat)=>lo+((k+1+i:Nat):Int):=by
      rw[eh3]
      refine eh8 fun i _=> ?_
      show lo+((k+(i+1):Nat):Int)=_
      congr 2;omega
    rw[eg9,List.range_succ_eq_map,eg6,eg6,e];refine .cons ?_ ?_
    · obtain ⟨t,e⟩:=hk 0 v rfl;exact ⟨t,e⟩
    · have:=ih (k+1) fun j w e=>by
        obtain ⟨t,z⟩:=hk (j+1) w (by simpa using e);exact ⟨t,by rw[z];congr 2;omega⟩
      exact this
 have:=key acc.toList 0 fun j v e=>by
   obtain ⟨t,z⟩:=hv j v (by simpa using e);exact ⟨t,by rw[z,Int.mul_one];simp⟩
 have hl:acc.toList.length=n:=by simpa using hs
 rw[hl] at this
 have e:((ef4 n).map fun (i:Nat)=>lo+((0+i:Nat):Int))=Y0 lo n:=by
   unfold Y0
   refine eh8 fun i _=> ?_
   simp
 rw[e] at this;exact this
theorem bs6 (hc:X.calm=true):W9 X (.type "list") (fun xs H Q=>∃p lo hi,xs=[.ref p]/\H p=some (.rng lo hi)/\(-(2^62)<=lo/\lo < 2^62/\ -(2^62)<=hi/\hi < 2^62)/\(hi - lo).toNat<=2^20/\
   ∀l,H l=none->Q (.ref l) (c9 H l (.lst ((Y0 lo (hi - lo).toNat).map V.int)))):=by
 intro pins s σ H xs us Q I r h;obtain ⟨p,lo,hi,rfl,hp,⟨b1,b2,b3,b4⟩,hz,q⟩:=h;obtain ⟨u,rfl,rx⟩:=ak7 r;cases rx;obtain ⟨t,u,v,ho⟩:=I.hok p _ hp
 refine call_list_range (n:=(hi - lo).toNat) (I.ok.hd hc) (r:=p) ho (small_one b1 b2 b3 b4) (by rw[rangeSize_one];split<;>omega) (ed3 hz (by decide)) fun h' tk acc' c' hk e it=> ?_
 have rv:=cj7 it;refine ⟨.ref s.heap.objs.size,_,I.laid hk (ec0 _) (show B0 X.prog X.w _ h' _ (.lst ((Y0 lo (hi - lo).toNat).map V.int)) from ⟨?_,acc'.toList,c',rv,by rw[e]⟩),rfl,q _ (I.hok.fresh (ec0 _))⟩;unfold Y0;rw[eb7,eb7,ee9];exact ed3 hz (by rw[sizeLine_eq];decide)
theorem cp2 (hc:X.calm=true):W9 X (.builtin "sum") (fun xs H Q=>∃(p:Addr) (ns:List Int),xs=[.ref p]/\g9 X.K H p (ns.map V.int)/\Q (.int ns.sum) H):=by
 intro pins s σ H xs us Q I r h;obtain ⟨p,ns,rfl,hp,q⟩:=h;obtain ⟨u,rfl,rx⟩:=ak7 r;cases rx;obtain ⟨its,rv,pl,_⟩:=I.list hp;have ia:=aa9 rv;obtain ⟨xs,hxs⟩:=ia.allInts.items;have hn:=ia.numsOf
 have hxl:its=(intItems xs).toList:=by rw[<-hxs]
 rw[hxl,nums_intItems] at hn;have hl:=pl.isList;rw[hxs] at hl
 refine sum_intListG (I.ok.hd hc) hl fun h' tk t' hk=>⟨.int ns.sum,H,I.kept hk,?_,q⟩
 rw[preSum_eq,el3 (by simp),hn];exact ⟨_,rfl⟩
end
end L2
namespace L2
open PySem PySem.Spec PyProof.Rows
section
variable {X:Cx}
theorem cx9:W9 X (.builtin "isinstance") (fun xs H Q=>∃x n t b,xs=[x,.ty n]/\X8 X.K H x t/\PySem.W.kitOne X.K t (.type n)=some b/\Q (.bl b) H):=by
 intro pins s σ H xs us Q I r h;obtain ⟨x,n,t,b,rfl,ty,e,q⟩:=h;obtain ⟨u,w',rfl,rx,ry⟩:=bt6 r;cases (show w'=Value.type n from ry)
 exact cn9 I rx ty e fun tk=>⟨.bl b,H,I.tok tk,rfl,q⟩
theorem Z1 (K:PySem.W.Frag)(n:String):PySem.W.kitOne K (.type n) (.type n)=some true:=by
 unfold PySem.W.kitOne;rw[if_pos (beq_self_eq_true _)]
theorem ai2 (K:PySem.W.Frag):PySem.W.kitOne K (.type "int") (.type "bool")=some false:=by
 unfold PySem.W.kitOne PySem.W.kitCls;rw[if_neg (by decide+kernel)];show (if PySem.W.kitMeta "bool"=true then (fastBuiltinMro "int").map (·.contains (Value.type "bool")) else none)=some false;rw[if_pos (by decide+kernel)]
 decide+kernel
theorem cy0:bootBuiltins "int"=some (.type "int"):=by decide+kernel
theorem cp3:bootBuiltins "bool"=some (.type "bool"):=by decide+kernel
theorem ar3:bootBuiltins "list"=some (.type "list"):=by decide+kernel
theorem cc9:bootBuiltins "range"=some (.type "range"):=by decide+kernel
theorem bw2:bootBuiltins "isinstance"=some (.builtin "isinstance"):=by decide+kernel
theorem cp4:bootBuiltins "sum"=some (.builtin "sum"):=by decide+kernel
theorem cp5:bootBuiltins "min"=some (.builtin "min"):=by decide+kernel
theorem cp6:bootBuiltins "max"=some (.builtin "max"):=by decide+kernel
end
def j5 (a:Addr)(H H':Hp):Prop:=∀b o,H b=some o->b≠a->H' b=some o
theorem j5.refl (a:Addr)(H:Hp):j5 a H H:=fun _ _ h _=>h
theorem j5.trans {a:Addr}{H H1 H2:Hp}(x:j5 a H H1)(y:j5 a H1 H2):j5 a H H2:=fun b o h n=>y b o (x b o h n) n
theorem e7.but {H H':Hp}(a:Addr)(s:e7 H H'):j5 a H H':=fun b o h _=>s b o h
theorem e7.upd_new {H:Hp}{p:Addr}{o:HO}(h:H p=none):e7 H (c9 H p o):=fun b u e=>by rw[g6 (g7 e h)];exact e
theorem j5.upd {H:Hp}{a:Addr}{o:HO}:j5 a H (c9 H a o):=fun b u e n=>by rw[g6 n];exact e
theorem e7.upd_r {H H':Hp}{p:Addr}{o:HO}(s:e7 H H')(h:H p=none):e7 H (L2.c9 H' p o):=fun b u e=>by rw[g6 (g7 e h)];exact s b u e
theorem j5.upd_r {a:Addr}{H H':Hp}{p:Addr}{o:HO}(k:j5 a H H')(h:H p=none):j5 a H (L2.c9 H' p o):=fun b u e n=>by rw[g6 (g7 e h)];exact k b u e n
theorem j5.upd_a {a:Addr}{H H':Hp}{o:HO}(k:j5 a H H'):j5 a H (L2.c9 H' a o):=fun b u e n=>by rw[g6 n];exact k b u e n
end L2
namespace L2
open PySem PySem.Spec PyProof.Rows
def o5 (P:Program)(w:World)(K:PySem.W.Frag)(mg:Str->Option Value)(base:Heap)(x:Str)(k:Nat)(ps:List Str)(sp:Sp):Prop:=
 ∃(f:Addr) (fd:FuncData),mg x=some (.ref f)/\PySem.W.keepIn K (.ref f)=true/\ag7 K fd ps []/\o8 P w K mg base G2 k f fd ps sp
section
variable {X:Cx} {x:Str} {p pos:Pos} {e:Expr} {es:List Expr} {t:TA} {k:Nat} {ps:List Str} {sp:Sp}
theorem j7 (c:o5 X.prog X.w X.K X.mg X.base x k ps sp)(hr:n6 k X.A)(ha:PA X (e::es) t)(hg:Gl X x:=by rfl)(hdb:(x==("__debug__":Str))=false:=by decide)
   (he:starEach (e::es) X.env=(false,eval e X.env)::starEach es X.env:=by rfl) (hpl:(backTo pos (starEach es X.env)).any (·.1)=false:=by rfl):
   PE X (.Call (.Name x p) (e::es) [] pos) (bh3 sp [] E0 t):=by
 obtain ⟨f,fd,h1,h2,h3,h4⟩:=c;exact ce6 h4 hr hg h1 h2 h3 .nil ds8 ha hdb he hpl
theorem ai3 {a b:Expr}{ta:TA}(hm:X.mg "isinstance"=none)(ha:PA X [a,b] ta)(hg:Gl X "isinstance":=by rfl)
   (he:starEach [a,b] X.env=(false,eval a X.env)::starEach [b] X.env:=by rfl) (hpl:(backTo pos (starEach [b] X.env)).any (·.1)=false:=by rfl):
   PE X (.Call (.Name "isinstance" p) [a,b] [] pos) (tCB (fun xs H Q=>∃x n t b,xs=[x,.ty n]/\X8 X.K H x t/\PySem.W.kitOne X.K t (.type n)=some b/\Q (.bl b) H) ta):=
 V6 cx9 hg hm bw2 ha (by decide) (by decide) he hpl
theorem bw3 (hm:X.mg "int"=none)(hg:Gl X "int":=by rfl):PE X (.Name "int" p) (tC (.ty "int")):=ba3 hg hm cy0 rfl
theorem bp9 (hm:X.mg "bool"=none)(hg:Gl X "bool":=by rfl):PE X (.Name "bool" p) (tC (.ty "bool")):=ba3 hg hm cp3 rfl
theorem ak9 (hm:X.mg "list"=none)(hg:Gl X "list":=by rfl):PE X (.Name "list" p) (tC (.ty "list")):=ba3 hg hm ar3 rfl
theorem A0 (hm:X.mg "len"=none)(ha:PA X [e] t)(hg:Gl X "len":=by rfl)
   (he:starEach [e] X.env=(false,eval e X.env)::starEach [] X.env:=by rfl):PE X (.Call (.Name "len" p) [e] [] pos) (tCB (fun xs H Q=>∃p ys,xs=[.ref p]/\(g9 X.K H p ys\/Q0 X.K H p ys)/\Q (.int ys.length) H) t):=
 V6 bv0 hg hm PySem.boot_len ha (by decide) (by decide) he rfl
end
end L2
namespace Mth
structure x8 (p:List Int):Prop where
 nd:p.Nodup
 lo:∀x∈p,0<=x
 hi:∀x∈p,x < p.length
theorem R0 {n:Nat}{x:Int}:x∈L2.Y0 0 n↔0<=x/\x < n:=by
 unfold L2.Y0;rw[ed2];constructor
 · rintro ⟨i,hi,rfl⟩;have:=eg0.mp hi;omega
 · rintro ⟨h1,h2⟩;exact ⟨x.toNat,eg0.mpr (by omega),by omega⟩
theorem J9 (lo:Int)(n:Nat):(L2.Y0 lo n).length=n:=by
 unfold L2.Y0;rw[eb7,ee9]
theorem S9 (n:Nat):(L2.Y0 0 n).Nodup:=by
 unfold L2.Y0;rw[ed5,el4];exact List.Pairwise.imp (fun {a b} (h:a < b)=>by omega) eq0
theorem bd0 {p:List Int}{n:Nat}(h:p.Perm (L2.Y0 0 n)):x8 p/\p.length=n:=by
 have hl:p.length=n:=by rw[h.length_eq,J9]
 refine ⟨⟨h.nodup_iff.mpr (S9 n),fun x hx=>(R0.mp (h.mem_iff.mp hx)).1,fun x hx=> ?_⟩,hl⟩;have:=(R0.mp (h.mem_iff.mp hx)).2;omega
theorem bs7:∀(n:Nat) (p:List Nat),p.Nodup->(∀x∈p,x < n)->p.length=n->p.Perm (ef4 n):=by
 intro n
 induction n with
 |zero=>intro p _ _ hl;rw[List.eq_nil_of_length_eq_zero hl];exact List.Perm.refl _
 |succ n ih=>
  intro p nd hb hl
  by_cases hn:n∈p
  · obtain ⟨s,t,rfl⟩:=ev3 hn;have pm:(s++n::t).Perm (n::(s++t)):=List.perm_middle;have nd':=pm.nodup_iff.mp nd;obtain ⟨h1,h2⟩:=eg5.mp nd'
    have:=ih (s++t) h2 (fun x hx=>by
      have hx':x < n+1:=hb x (pm.mem_iff.mpr (ec7 _ hx))
      have:x≠n:=fun e=>h1 (e▸hx)
      omega) (by rw[ec6,eg9] at hl;rw[ec6];omega)
    refine pm.trans ?_;rw[el8];exact (List.Perm.cons n this).trans (ek6 (l₁:=[n]))
  · exfalso
    have hlt:∀x∈p,x < n:=fun x hx=>by
      have h1:=hb x hx
      have:x≠n:=fun e=>hn (e▸hx)
      omega
    match p,nd,hl,hlt with
    |[],_,hl,_=>simp at hl
    |y::q,nd,hl,hlt=>
     obtain ⟨h1,h2⟩:=eg5.mp nd;have hq:=ih q h2 (fun x hx=>hlt x (ec7 _ hx)) (by simpa using hl);have hy:=hlt y ec5;exact h1 (hq.mem_iff.mpr (eg0.mpr hy))
theorem x8.perm {p:List Int}(h:x8 p):p.Perm (L2.Y0 0 p.length):=by
 have e:(p.map eq5).map (fun (i:Nat)=>(0:Int)+(i:Int))=p:=by
   rw[eh3]
   conv=>rhs;rw[<-eq6 p]
   refine eh8 fun x hx=> ?_
   have:=h.lo x hx;show (0:Int)+((x.toNat:Nat):Int)=x;omega
 have nd:(p.map eq5).Nodup:=by
   rw[ed5,el4];have:=ed5.mp h.nd;refine List.Pairwise.imp_of_mem (fun {a b} ha hb hne z=>hne ?_) this;have h1:=h.lo a ha;have h2:=h.lo b hb;omega
 have:=bs7 p.length (p.map eq5) nd (fun x hx=>by
   obtain ⟨y,hy,rfl⟩:=ed2.mp hx;have h1:=h.lo y hy;have h2:=h.hi y hy
   omega) (by rw[eb7])
 have q:=this.map (fun (i:Nat)=>(0:Int)+(i:Int));rw[e] at q;exact q
def C9 (fs:List Int)(u:Int):Option Int:=fs[u.toNat]?
theorem bw4 (fs:List Int):(L2.Y0 0 fs.length).map (C9 fs)=fs.map some:=by
 unfold L2.Y0;rw[eh3]
 refine eg4 fun j=> ?_
 rw[ec1,ec1]
 by_cases hj:j < fs.length
 · rw[eg8 hj,eb8 hj];show some (fs[((0:Int)+(j:Int)).toNat]?)=_
   have:((0:Int)+(j:Int)).toNat=j:=by omega
   rw[this,eb8 hj];rfl
 · rw[ed1 (by rw[ee9];omega),ed1 (by omega)];rfl
theorem cp7 {a b:List Int}(h:(a.map some).Perm (b.map some)):a.Perm b:=by
 have:=h.map (fun o:Option Int=>o.getD 0);rw[eh3,eh3] at this
 have e:∀l:List Int,l.map ((fun o:Option Int=>o.getD 0)∘some)=l:=fun l=>by
   conv=>rhs;rw[<-eq6 l]
   rfl
 rw[e,e] at this;exact this
theorem bh8 {fs ts qs:List Int}(ht:x8 ts)(hl:fs.length=ts.length)(h:ts.map (C9 fs)=qs.map some):fs.Perm qs:=by
 refine cp7 ?_;have h1:=ht.perm.map (C9 fs);rw[<-hl,bw4,h] at h1;exact h1.symm
end Mth
namespace L2
open PySem PySem.Spec PyProof.Rows
theorem ax1.of {X:Cx}{N:List Str}{nl:Nat}{fr:List Nat}{scope:Scope}(h1:(scope.names.all fun y=>y.2 != .cell)=true:=by rfl)(h2:scope.kind= .function:=by rfl)
   (h3:(scope.names.all fun y=>y.2 != .local||scope.names.lookup y.1==some .local)=true:=by rfl)
   (h4:(scope.names.all fun p=>p.2 != .free||(X.env.kindOf p.1==some .cell||X.env.kindOf p.1==some .free))=true:=by rfl) (h5:N.length=nl+fr.length:=by rfl)
   (h6:((ef4 fr.length).all fun k=>match fr[k]? with
     |some j=>(match N[nl+k]?,X.N[j]? with
      |some y,some z=>y==z&&(X.env.scope.names.lookup y==some .local||X.env.scope.names.lookup y==some .cell||X.env.scope.names.lookup y==some .free)&&scope.names.lookup y==some .free
      |_,_=>false)
     |none=>false)=true:=by rfl):ax1 X N nl fr scope where
 cell:=fun y hy e=>by
   have:=em9.mp h1 y hy;rw[e] at this;exact absurd this (by decide)
 kind:=h2
 names:=fun y hy e=>by
   have:=em9.mp h3 y hy;rw[e] at this
   have q:(scope.names.lookup y.1==some NameKind.local)=true:=by simpa using this
   exact eq_of_beq q
 free:=fun p hp e=>by
   have:=em9.mp h4 p hp;rw[e] at this
   have q:(X.env.kindOf p.1==some NameKind.cell||X.env.kindOf p.1==some NameKind.free)=true:=by simpa using this
   rcases ey5 _ _|>.mp q with z|z
   · exact .inl (eq_of_beq z)
   · exact .inr (eq_of_beq z)
 len:=h5
 fr:=fun k j e=>by
   have hk:k < fr.length:=(eb9.mp e).1;have:=em9.mp h6 k (eg0.mpr hk);rw[e] at this
   dsimp only at this
   cases e1:N[nl+k]? with
   |none=>rw[e1] at this;cases this
   |some y=>
    cases e2:X.N[j]? with
    |none=>rw[e1,e2] at this;cases this
    |some z=>
     rw[e1,e2] at this
     dsimp only at this
     rw[eh9,eh9] at this;obtain ⟨⟨q1,q2⟩,q3⟩:=this;have hyz:y=z:=eq_of_beq q1;subst hyz;refine ⟨y,rfl,rfl,?_,eq_of_beq q3⟩;rw[ey5,ey5] at q2
     rcases q2 with (q|q)|q
     · exact .inl (eq_of_beq q)
     · exact .inr (.inl (eq_of_beq q))
     · exact .inr (.inr (eq_of_beq q))
def M3 (l:List Int):List (w6×V):=l.map fun n=>((Sum.inl n:w6),V.bl true)
theorem ar4 {l:List Int}{n:Int}(h:n∈l):D0 (M3 l) (Sum.inl n:w6)=some (.bl true):=by
 induction l with
 |nil=>simp at h
 |cons a r ih=>
  show D0 (((Sum.inl a:w6),V.bl true)::M3 r) _=_
  by_cases e:a=n
  · rw[K6 (by rw[e])]
  · rw[K3 (fun z=>e (Sum.inl.inj z))];exact ih ((ee0.mp h).resolve_left fun z=>e z.symm)
theorem ai4 {l:List Int}{n:Int}(h:n∉l):D0 (M3 l) (Sum.inl n:w6)=none:=by
 induction l with
 |nil=>rfl
 |cons a r ih=>
  show D0 (((Sum.inl a:w6),V.bl true)::M3 r) _=_;rw[K3 (fun z=>h (by rw[Sum.inl.inj z];exact ec5))]
  exact ih fun z=>h (ec7 _ z)
theorem ax2 {l:List Int}{n:Int}(h:n∉l):R4 (M3 l) (Sum.inl n:w6) (V.bl true)=M3 (l++[n]):=by
 rw[aq6 _ (ai4 h)];unfold M3;rw[ec4];rfl
theorem R1 {ns:List Int}{i:Nat}{y:V}(h:(ns.map V.int)[i]? =some y):∃z,ns[i]? =some z/\y= .int z:=by
 rw[ec1] at h
 cases e:ns[i]? with
 |none=>rw[e] at h;cases h
 |some z=>rw[e] at h;exact ⟨z,rfl,(Option.some.inj h).symm⟩
theorem j8 {α:Type}{l:List α}{i:Nat}{x:α}(h:l[i]? =some x):l.take (i+1)=l.take i++[x]:=by
 rw[List.take_add_one,h];rfl
end L2
namespace Mth
theorem X0 {p:List Int}{i:Int}(h0:0<=i)(h1:i < p.length):L2.V7 (p.map L2.V.int) i=some (.int (p.getD i.toNat 0)):=by
 obtain ⟨j,rfl⟩:=em3 h0;refine L2.C4 ?_
 have hj:j < p.length:=by omega
 rw[ec1,eb8 hj];show some (L2.V.int p[j])=_;rw[eg3];rw[ec3,eb8 hj];rfl
end Mth
namespace L2
open PySem PySem.Spec PyProof.Rows
theorem bl3 (K:PySem.W.Frag)(H:Hp)(n:Nat)(xs:List V):LEq K H n xs [] xs.isEmpty:=by
 cases xs with
 |nil=>exact .inr ⟨fun _=>true,rfl,fun j x y e=>by simp at e,rfl⟩
 |cons x r=>exact .inl ⟨by simp,rfl⟩
section
variable {X:Cx} {p pos apos:Pos} {e o:Expr} {es:List Expr} {t:TA} {to:TE}
theorem C7 (ho:PE X o to)(ha:PA X [e] t)
   (hbase:attributeBase o "append" X.env (eval o X.env)=eval o X.env:=by rfl)
   (hfew:((backTo pos (starEach [e] X.env)).all (fun x=> !x.1)&&(backToKw pos (keywordEach [] X.env)).all (fun x=>x.1.isSome)
     &&decide ([e].length+([]:List Keyword).length+(if ([]:List Keyword).isEmpty then 0 else 1) < 30))=true:=by rfl)
   (hline:(apos.endLine==pos.line)=true:=by rfl) (hs:starEach [e] X.env=(false,eval e X.env)::starEach [] X.env:=by rfl) (hplain:(backTo pos (starEach [] X.env)).any (·.1)=false:=by rfl):
   PE X (.Call (.Attribute o "append" apos) [e] [] pos) (tBM X.K "list" ce7 to t):=
 ba7 PySem.F.plainAttrs_list PySem.F.slot_list_append PySem.F.type_list_append co3 ho ha hbase hfew hline hs hplain
theorem al0 (hm:X.mg "list"=none)(ha:PA X [e] t)(hg:Gl X "list":=by rfl)(he:starEach [e] X.env=(false,eval e X.env)::starEach [] X.env:=by rfl):
   PE X (.Call (.Name "list" p) [e] [] pos) (tCB (fun xs H Q=>∃p ys,xs=[.ref p]/\(g9 X.K H p ys\/Q0 X.K H p ys)/\∀l,H l=none->Q (.ref l) (c9 H l (.lst ys))) t):=
 aw6 bv3 hg hm ar3 ha (by decide) (by decide) he rfl
theorem ar5 {p2 pos2:Pos}(hc:X.calm=true)(hm:X.mg "list"=none)(hm2:X.mg "range"=none)(ha:PA X [e] t)(hg:Gl X "list":=by rfl)(hg2:Gl X "range":=by rfl)(he:starEach [e] X.env=(false,eval e X.env)::starEach [] X.env:=by rfl)
   (he2:starEach [.Call (.Name "range" p2) [e] [] pos2] X.env=(false,eval (.Call (.Name "range" p2) [e] [] pos2) X.env)::starEach [] X.env:=by rfl):
   PE X (.Call (.Name "list" p) [.Call (.Name "range" p2) [e] [] pos2] [] pos) (tCB (fun xs H Q=>∃p lo hi,xs=[.ref p]/\H p=some (.rng lo hi)/\(-(2^62)<=lo/\lo < 2^62/\ -(2^62)<=hi/\hi < 2^62)/\(hi - lo).toNat<=2^20/\
   ∀l,H l=none->Q (.ref l) (c9 H l (.lst ((Y0 lo (hi - lo).toNat).map V.int)))) (dc1 (tCB (fun xs H Q=>∃j,xs=[.int j]/\∀p,H p=none->Q (.ref p) (c9 H p (.rng 0 j))) t) dl6)):=
 aw6 (bs6 hc) hg hm ar3 (c5 (aw6 cc8 hg2 hm2 cc9 ha (by decide) (by decide) he rfl) c6 he2) (by decide) (by decide) he2 rfl
theorem dn2 (hc:X.calm=true)(hm:X.mg "sum"=none)(ha:PA X [e] t)(hg:Gl X "sum":=by rfl)(he:starEach [e] X.env=(false,eval e X.env)::starEach [] X.env:=by rfl):
   PE X (.Call (.Name "sum" p) [e] [] pos) (tCB (fun xs H Q=>∃(p:Addr) (ns:List Int),xs=[.ref p]/\g9 X.K H p (ns.map V.int)/\Q (.int ns.sum) H) t):=
 V6 (cp2 hc) hg hm cp4 ha (by decide) (by decide) he rfl
theorem ce9 {a b:Expr}(hc:X.calm=true)(hm:X.mg "min"=none)(ha:PA X [a,b] t)(hg:Gl X "min":=by rfl)(he:starEach [a,b] X.env=(false,eval a X.env)::starEach [b] X.env:=by rfl)(hpl:(backTo pos (starEach [b] X.env)).any (·.1)=false:=by rfl):
   PE X (.Call (.Name "min" p) [a,b] [] pos) (tCB (fun xs H Q=>∃i j,xs=[.int i,.int j]/\Q (.int (if j < i then j else i)) H) t):=
 V6 (cn7 hc) hg hm cp5 ha (by decide) (by decide) he hpl
theorem de5 {a b:Expr}(hc:X.calm=true)(hm:X.mg "max"=none)(ha:PA X [a,b] t)(hg:Gl X "max":=by rfl)(he:starEach [a,b] X.env=(false,eval a X.env)::starEach [b] X.env:=by rfl)(hpl:(backTo pos (starEach [b] X.env)).any (·.1)=false:=by rfl):
   PE X (.Call (.Name "max" p) [a,b] [] pos) (tCB (fun xs H Q=>∃i j,xs=[.int i,.int j]/\Q (.int (if j > i then j else i)) H) t):=
 V6 (cn6 hc) hg hm cp6 ha (by decide) (by decide) he hpl
end
end L2
namespace Mth
theorem ar6 {α:Type}:∀{l:List α} {k:Nat} {y:α},l[k]? =some y->(y::l.eraseIdx k).Perm l
 |[],k,y,h=>by simp at h
 |a::r,0,y,h=>by
  simp at h;subst h;exact List.Perm.refl _
 |a::r,k+1,y,h=>by
  have h':r[k]? =some y:=by simpa using h
  have ih:=ar6 h';show (y::a::r.eraseIdx k).Perm (a::r);exact (List.Perm.swap a y _).trans (ih.cons a)
end Mth
namespace L2
open PySem PySem.Spec PyProof.Rows
def dz2 (K:PySem.W.Frag)(ta:TA):TE:=tCB (fun xs H Q=>∃x n t b,xs=[x,.ty n]/\X8 K H x t/\PySem.W.kitOne K t (.type n)=some b/\Q (.bl b) H) ta
def ds9 (K:PySem.W.Frag)(ta:TA):TE:=tCB (fun xs H Q=>∃p ys,xs=[.ref p]/\(g9 K H p ys\/Q0 K H p ys)/\Q (.int ys.length) H) ta
section
variable {X:Cx} {p pos:Pos} {e:Expr} {t:TA}
theorem cf0 (K:PySem.W.Frag){a b:Expr}{ta:TA}(hm:X.mg "isinstance"=none)(ha:PA X [a,b] ta)(hK:X.K=K:=by rfl)(hg:Gl X "isinstance":=by rfl)
   (he:starEach [a,b] X.env=(false,eval a X.env)::starEach [b] X.env:=by rfl) (hpl:(backTo pos (starEach [b] X.env)).any (·.1)=false:=by rfl):
   PE X (.Call (.Name "isinstance" p) [a,b] [] pos) (dz2 K ta):=by
 subst hK;exact ai3 hm ha hg he hpl
theorem be2 (K:PySem.W.Frag)(hm:X.mg "len"=none)(ha:PA X [e] t)(hK:X.K=K:=by rfl)(hg:Gl X "len":=by rfl)
   (he:starEach [e] X.env=(false,eval e X.env)::starEach [] X.env:=by rfl):PE X (.Call (.Name "len" p) [e] [] pos) (ds9 K t):=by
 subst hK;exact A0 hm ha hg he
end
theorem ar7 (n:Nat):(ed6 n [V.int 0]).flatten=(ed6 n (0:Int)).map V.int:=by
 induction n with
 |zero=>rfl
 |succ n ih=>rw[em6,eg7,ih,em6,eg6];rfl
def bh9:V->Int
 | .int i=>i
 |_=>0
theorem cp8 {ys:List V}{xs:List Int}(h:ys.Perm (xs.map V.int)):∃ps:List Int,ys=ps.map V.int/\ps.Perm xs:=by
 refine ⟨ys.map bh9,?_,?_⟩
 · rw[eh3]
   conv=>lhs;rw[<-eq6 ys]
   refine eh8 fun y hy=> ?_
   obtain ⟨i,_,rfl⟩:=ed2.mp (h.mem_iff.mp hy);rfl
 · have:=h.map bh9;rw[eh3] at this
   have e:xs.map (bh9∘V.int)=xs:=by
     conv=>rhs;rw[<-eq6 xs]
     rfl
   rw[e] at this;exact this
end L2
namespace Mth
theorem Y4 {fs:List Int}{u v x:Int}(hu:0<=u)(hv:0<=v)(h:u≠v):C9 (fs.set v.toNat x) u=C9 fs u:=by
 unfold C9;rw[er0 (by omega)]
theorem ad1 {fs:List Int}{v x:Int}(h:v.toNat < fs.length):C9 (fs.set v.toNat x) v=some x:=by
 unfold C9;rw[ep7 h]
theorem E9 {ts:List Int}{i:Nat}(h:i < ts.length):ts.getD i 0=ts[i]:=by
 rw[ec3,eb8 h];rfl
theorem Q4 {ts:List Int}(nd:ts.Nodup){i j:Nat}(hi:i < ts.length)(hj:j < ts.length)(h:i≠j):ts.getD i 0≠ts.getD j 0:=by
 rw[E9 hi,E9 hj]
 rcases Nat.lt_or_gt_of_ne h with z|z
 · exact ee7.mp (ed5.mp nd) i j hi hj z
 · exact fun e=>ee7.mp (ed5.mp nd) j i hj hi z e.symm
theorem cy1 {ts fs qs:List Int}{k L:Nat}(hL:1<=L)(hb:k+L<=ts.length)(h1:(ts.take k).map (C9 fs)=qs.map some)(hq:qs.Perm (ts.take k))
   (h2:∀j,j < L->C9 fs (ts.getD (k+j) 0)=some (ts.getD (k+(j+1)%L) 0)):∃qs':List Int,qs'.Perm (ts.take (k+L))/\(ts.take (k+L)).map (C9 fs)=qs'.map some:=by
 have hT:((ts.drop k).take L).length=L:=by rw[ee1,eg1];omega
 have hTj:∀j,j < L->((ts.drop k).take L)[j]? =some (ts.getD (k+j) 0):=fun j hj=>by
   rw[ei7 hj,eo5,E9 (by omega),eb8 (by omega)]
 have e:((ts.drop k).take L).map (C9 fs)=(((ts.drop k).take L).drop 1++((ts.drop k).take L).take 1).map some:=by
   refine eg4 fun j=> ?_
   by_cases hj:j < L
   · rw[ec1,hTj j hj,ec1];show some (C9 fs (ts.getD (k+j) 0))=_;rw[h2 j hj]
     by_cases hj1:j+1 < L
     · rw[ee4 (by rw[eg1,hT];omega),eo5,ej4 1 j,hTj (j+1) hj1,ef1 hj1];rfl
     · have hjL:j+1=L:=by omega
       rw[ee8 (by rw[eg1,hT];omega),eg1,hT,hjL,Nat.mod_self]
       have:j - (L - 1)=0:=by omega
       rw[this,ei7 (by omega),hTj 0 (by omega)];rfl
   · rw[ed1 (by rw[eb7,hT];omega),ed1];rw[eb7,ec6,eg1,ee1 (i:=1),hT];omega
 refine ⟨qs++(((ts.drop k).take L).drop 1++((ts.drop k).take L).take 1),?_,?_⟩
 · rw[List.take_add];refine List.Perm.append hq ?_;refine ek6.trans ?_;rw[ei8]
 · rw[List.take_add,ec4,ec4,h1,e]
end Mth
namespace L2
open PySem PySem.Spec PyProof.Rows
theorem j5.free {a l:Addr}{H H':Hp}(k:j5 a H H')(h:H' l=none)(n:l≠a):H l=none:=by
 cases e:H l with
 |none=>rfl
 |some o=>have:=k l o e n;rw[h] at this;cases this
theorem e7.kb {a:Addr}{H H1 H2:Hp}(s:e7 H H1)(k:j5 a H1 H2)(h:H a=none):e7 H H2:=fun b o e=>k b o (s b o e) (g7 e h)
def m9 (H:Hp)(as:List Addr)(rs:List (List Int)):Prop:=as.length=rs.length/\∀(j:Nat) a r,as[j]? =some a->rs[j]? =some r->H a=some (.lst (r.map V.int))
theorem cd0 {a b:List Int}(h:a.map V.int=b.map V.int):a=b:=(List.map_inj_right (fun x y (h:V.int x=V.int y)=>V.int.inj h)).mp h
theorem ae8 {K:PySem.W.Frag}{H:Hp}{as bs:List Addr}{rs qs:List (List Int)}(ha:m9 H as rs)(hb:m9 H bs qs):LEq K H 1 (as.map V.ref) (bs.map V.ref) (decide (rs=qs)):=by
 by_cases hl:as.length=bs.length
 · refine .inr ⟨fun j=>decide (rs[j]? =qs[j]?),by simpa using hl,fun j x y e1 e2=> ?_,?_⟩
   · rw[ec1] at e1 e2
     cases h1:as[j]? with
     |none=>rw[h1] at e1;cases e1
     |some a=>
      cases h2:bs[j]? with
      |none=>rw[h2] at e2;cases e2
      |some b=>
       rw[h1] at e1;rw[h2] at e2;cases e1;cases e2;have j1:j < as.length:=(eb9.mp h1).1;have k1:rs[j]? =some (rs[j]'(by rw[<-ha.1];exact j1)):=eb8 _;have k2:qs[j]? =some (qs[j]'(by rw[<-hb.1,<-hl];exact j1)):=eb8 _;have q1:=ha.2 j a _ h1 k1;have q2:=hb.2 j b _ h2 k2;show EqD K H 1 _ _ (decide (rs[j]? =qs[j]?));rw[k1,k2];generalize (rs[j]'(by rw[<-ha.1];exact j1))=r at q1 ⊢;generalize (qs[j]'(by rw[<-hb.1,<-hl];exact j1))=q at q2 ⊢
       by_cases hab:a=b
       · subst hab;rw[q1] at q2;have e':r=q:=cd0 (HO.lst.inj (Option.some.inj q2));rw[e',decide_eq_true rfl];exact .same a
       · rcases Q9 K H 0 r q with ⟨h3,h4⟩|⟨e,h3,h4,h5⟩
         · have:=EqD.lens (n:=0) hab (g9.of (K:=K) q1) (g9.of q2) h3
           rw[decide_eq_false (fun z=>by
             have z':r=q:=Option.some.inj z
             exact h3 (by rw[z']))]
           exact this
         · have:=EqD.lists (n:=0) e hab (g9.of (K:=K) q1) (g9.of q2) h3 h4;rw[<-h5] at this
           have e6:decide (r=q)=decide (some r=some q):=by
             by_cases z:r=q
             · subst z;simp
             · rw[decide_eq_false z,decide_eq_false fun w=>z (Option.some.inj w)]
           rw[<-e6];exact this
   · rw[en4,decide_eq_true_iff,af7];constructor
     · intro h j _;subst h;simp
     · intro h
       refine eg4 fun j=> ?_
       by_cases hj:j < rs.length
       · exact of_decide_eq_true (h j (by rw[eb7,ha.1];exact hj))
       · rw[ed1 (by omega),ed1 (by rw[<-hb.1,<-hl,ha.1];omega)]
 · refine .inl ⟨by simpa using hl,?_⟩
   exact decide_eq_false fun h=>hl (by rw[ha.1,hb.1,h])
end L2
namespace Mth
theorem cy2 {p:List Int}(t:x8 p){j:Nat}(h:j < p.length):0<=p.getD j 0/\p.getD j 0 < p.length:=by
 rw[E9 h];exact ⟨t.lo _ (ef2 h),t.hi _ (ef2 h)⟩
end Mth
namespace L2
open PySem PySem.Spec PyProof.Rows
def Ite (K:PySem.W.Frag)(a:Addr):It:=
 ⟨fun i H=>∃xs x,g9 K H a xs/\xs[i]? =some x,fun i H v H'=>∃x t,(∀xs,g9 K H a xs->xs[i]? =some x)/\H t=none/\v= .ref t/\H'=c9 H t (.tup [.int (i:Int),x]),fun i H=>∃xs,g9 K H a xs/\xs.length<=i⟩
theorem cq0 {P:Program}{w:World}{K:PySem.W.Frag}{elts:List Expr}{x1}{pos:Pos}(a e it:Addr)(hne:e≠it):
   bl0 P w K (.Tuple elts x1 pos) (Ite K a) [e,it] e (fun i h=>(∃old,IsEnum h e it i old)/\h.IsListIter it a i) where
 mem:=by simp
 obj:=fun i h st b hb=>by
   obtain ⟨⟨old,he⟩,⟨o,ho,c,d⟩⟩:=st
   have hb:b=e\/b=it:=by simpa using hb
   rcases hb with rfl|rfl
   · exact ⟨_,he,fun v z=>by cases z⟩
   · exact ⟨o,ho,fun v z=>by rw[d] at z;cases z⟩
 keep:=fun i h h' st k=>⟨let ⟨old,he⟩:=st.1;⟨old,k e (by simp) _ he⟩,st.2.at fun o q=>k it (by simp) o q⟩
 item:=by
   intro X hP hw hK hc i pins s σ H E I hf st hg;subst hP hw hK;obtain ⟨⟨old,he⟩,hit⟩:=st;obtain ⟨xs,x,hq,hx⟩:=hg;obtain ⟨its,rv,p,hz⟩:=I.list hq;obtain ⟨u,hu,ru⟩:=rv.get hx;obtain ⟨f0,f1,f2,f3,f4,f5⟩:=hf e (by simp);obtain ⟨g0,g1,g2,g3,g4,g5⟩:=hf it (by simp)
   refine wpAny_pyNext_enum_item he hit p.isList (x:=u) (by simpa using hu) hne fun h' he' hit' ht' hz' hk'=> ?_
   refine ⟨_,rfl,wpAny_letOwnedTupleGo_enum he' fun h2 he2 hs2=> ?_⟩;have hs2:Heap.SameBut e h' h2:=hs2;have eT:e≠s.heap.objs.size:=eh2 (Heap.lt_size he);have ht2:h2.get? s.heap.objs.size=some {cls:= .type "tuple",data:= .seq #[.int i s.toks,u]}:=hs2.extBut _ _ eT.symm ht'
   have kk:∀b o,b≠e->b≠it->s.heap.get? b=some o->h2.get? b=some o:=fun b o b1 b2 q=>hs2.extBut b o b1 (hk' b o b1 b2 q)
   have hn:H s.heap.objs.size=none:=I.hok.fresh (ec0 _)
   have nT:∀b u',H b=some u'->b≠s.heap.objs.size:=fun b u' q=>g7 q hn
   have ne:∀b u',H b=some u'->b≠e/\b≠it:=fun b u' q=>⟨fun z=>(by rw[z,f0] at q;cases q),fun z=>(by rw[z,g0] at q;cases q)⟩
   have I1:i4 X pins σ (c9 H s.heap.objs.size (.tup [.int (i:Int),x])) {s with heap:=h2,gens:=s.gens,drawn:=s.drawn,toks:=s.toks+1}:=by
     refine I.step (ch:=[e,it]) (fun b hb=> ?_) (fun b o _ _ hc q _=>kk b o (fun z=>hc (by simp [z])) (fun z=>hc (by simp [z])) q) (fun b o _ _ hc q _=>⟨o.slots,kk b o (fun z=>hc (by simp [z])) (fun z=>hc (by simp [z])) q⟩)
       (fun b o hc q n=>by rw[g6 (eh2 (Heap.lt_size q))];exact n) (fun b o hc q=>⟨o,kk b o (fun z=>hc (by simp [z])) (fun z=>hc (by simp [z])) q⟩)
       (fun b ys q=>by rw[g6 (nT b _ q)];exact q) (fun b o ys q=>by rw[g6 (nT b _ q)];exact q) (fun b ps q=>⟨#[],by rw[g6 (nT b _ q),q];simp⟩) (fun m hm=> ?_) (fun b u' q=> ?_) I.bare
     · have hb:b=e\/b=it:=by simpa using hb
       rcases hb with rfl|rfl
       · exact ⟨f3,f1,f4,f5⟩
       · exact ⟨g3,g1,g4,g5⟩
     · obtain ⟨o,es,ep,ho,r⟩:=hm;exact ⟨o,es,ep,kk _ o (Ne.symm f1) (Ne.symm g1) ho,r⟩
     · by_cases hb:b=s.heap.objs.size
       · subst hb;rw[c8] at q;cases q;exact ⟨by show 2<=sizeLine;decide,[.int i s.toks,u],.cons ⟨_,rfl⟩ (.cons ru .nil),⟨_,ht2,rfl,0,rfl⟩⟩
       · rw[g6 hb] at q
         refine (I.hok b u' q).stay (fun c v hc q'=> ?_) (fun c q'=>by rw[g6 (nT c _ q')];exact q') fun c ys q'=>by rw[g6 (nT c _ q')];exact q'
         rcases hc with z|z
         · rw[z] at q' ⊢;exact kk b v (ne b _ q).1 (ne b _ q).2 q'
         · exact kk c v (ne c _ z).1 (ne c _ z).2 q'
   refine ⟨.ref s.heap.objs.size,_,I1,rfl,⟨x,s.heap.objs.size,fun ys hy=>by rw[I.list_inj hy hq];exact hx,hn,rfl,rfl⟩,⟨⟨u,?_⟩,?_⟩,fun b hb=> ?_⟩
   · have:((i+1:Nat):Int)=(i:Int)+1:=by push_cast;rfl
     rw[this];exact he2
   · exact hit'.extBut hs2.extBut hne.symm
   · have hb:b=e\/b=it:=by simpa using hb
     rcases hb with rfl|rfl
     · rw[g6 eT];exact f0
     · obtain ⟨o,ho,_⟩:=hit;rw[g6 (eh2 (Heap.lt_size ho))];exact g0
 done:=by
   intro X hP hw hK hc i pins s σ H E I hf st hg;subst hP hw hK;obtain ⟨⟨old,he⟩,hit⟩:=st;obtain ⟨xs,hq,hx⟩:=hg;obtain ⟨its,rv,p,hz⟩:=I.list hq;obtain ⟨g0,g1,g2,g3,g4,g5⟩:=hf it (by simp);have hl:=rv.length
   exact wpAny_pyNext_enum_end (I.ok.hd hc) he hit p.isList (by simp;omega) fun h' eb=>⟨rfl,I.turned (t':=s.toks) (fun b o hb q=>eb b o hb q) g0 g1 g3 g4 g5⟩
 self:=fun _ _ _ _ _ st h=>let ⟨_,he⟩:=st.1;wpAny_pyIter_enum he h
theorem cq1:bootBuiltins "enumerate"=some (.type "enumerate"):=by decide+kernel
section
variable {X:Cx} {l:Expr} {ta:TA} {p pos:Pos} {elts:List Expr} {x1:Nat} {tpos:Pos}
def dt0 (K:PySem.W.Frag)(ta:TA):TI:=fun σ H R=>ta σ H fun vs H1=>∃a,vs=[.ref a]/\(∃xs,g9 K H1 a xs)/\R (Ite K a) H1
theorem ao5 (hm:X.mg "enumerate"=none)(ha:PA X [l] ta)(hg:Gl X "enumerate":=by rfl)(hs:starEach [l] X.env=[(false,eval l X.env)]:=by rfl):PI X (.Tuple elts x1 tpos) (.Call (.Name "enumerate" p) [l] [] pos) (dt0 X.K ta):=by
 intro pins s σ H R I h;refine Call_ (an6 I hg hm cq1 (PyProof.Rows.callWith_type1 (t7 (ha pos pins s σ H _ I h) fun us s1 ⟨vs,H1,I1,r1,q1⟩=> ?_) hs rfl));obtain ⟨a,e,⟨xs,hq⟩,q⟩:=q1;subst e;obtain ⟨u,rfl,rx⟩:=ak7 r1;cases rx;obtain ⟨its,rv,pl,hz⟩:=I1.list hq
 refine call_enumerate_list pl.isList fun h' he hit hz' hk=> ?_
 refine wpAny_pyIter_enum he ?_;have I2:i4 X pins σ H1 {s1 with heap:=h',toks:=s1.toks}:=I1.kept (t':=s1.toks) hk;refine ⟨s1.heap.objs.size+1,[s1.heap.objs.size+1,s1.heap.objs.size],_,_,H1,rfl,I2,cq0 a (s1.heap.objs.size+1) s1.heap.objs.size (Nat.succ_ne_self _),⟨⟨.none,he⟩,hit⟩,fun b hb=> ?_,q⟩
 have hb:b=s1.heap.objs.size+1\/b=s1.heap.objs.size:=by simpa using hb
 rcases hb with rfl|rfl
 · exact I1.fpOk (by omega) (I1.hok.fresh (by omega))
 · exact I1.fpOk (by omega) (I1.hok.fresh (by omega))
end
theorem ai5 {K:PySem.W.Frag}{a:Addr}{xs:List V}{g:TG}{tb:TS}{D:S6}{σ:St}{H:Hp}(Pv:Nat->St->Hp->Prop)(h0:Pv 0 σ H)(hl:∀i σ H,i<=xs.length->Pv i σ H->g9 K H a xs)
   (hs:∀i x σ H t,xs[i]? =some x->Pv i σ H->H t=none->g (.ref t) σ (c9 H t (.tup [.int (i:Int),x])) fun σ2 H2=>tb {D with nx:=Pv (i+1),ct:=Pv (i+1),bk:=D.nx} σ2 H2) (hd:∀σ H,Pv xs.length σ H->D.nx σ H):
   ∃W:Nat->Nat->St->Hp->Prop,(∃m,W 0 m σ H)/\∀i m σ H,W i m σ H->
    ((Ite K a).stop i H/\D.nx σ H)\/((Ite K a).go i H/\∃N:St->Hp->Prop,(∀σ' H',N σ' H'->∃m',m' < m/\W (i+1) m' σ' H')/\∀x H',(Ite K a).yld i H x H'->g x σ H' fun σ2 H2=>tb {D with nx:=N,ct:=N,bk:=D.nx} σ2 H2):=by
 refine ⟨fun i m σ H=>m=xs.length - i/\i<=xs.length/\Pv i σ H,⟨xs.length,by simp,ed7 _,h0⟩,?_⟩;rintro i m σ H ⟨rfl,hi,p⟩;have q:=hl i σ H hi p
 by_cases hlt:i < xs.length
 · refine .inr ⟨⟨xs,xs[i],q,by simp [hlt]⟩,Pv (i+1),fun σ' H' p'=>⟨xs.length - (i+1),by omega,rfl,hlt,p'⟩,fun x H' y=> ?_⟩;obtain ⟨x',t,y1,y2,e1,e2⟩:=y;subst e1 e2;exact hs i x' σ _ t (y1 xs q) p y2
 · have e:i=xs.length:=by omega
   subst e;exact .inl ⟨⟨xs,q,ec0 _⟩,hd σ H p⟩
end L2
namespace Mth
def nx (p:List Int)(x:Int):Int:=p.getD x.toNat 0
def it (p:List Int):Nat->Int->Int
 |0,x=>x
 |i+1,x=>nx p (it p i x)
def In (p:List Int)(x:Int):Prop:=0<=x/\x < p.length
theorem cj8 {p:List Int}(t:x8 p){x:Int}(h:In p x):In p (nx p x):=cy2 t (j:=x.toNat) (by have:=h.1;have:=h.2;omega)
theorem bi0 {p:List Int}(t:x8 p){x y:Int}(hx:In p x)(hy:In p y)(h:nx p x=nx p y):x=y:=by
 have a1:=hx.1;have a2:=hx.2;have b1:=hy.1;have b2:=hy.2
 by_cases e:x.toNat=y.toNat
 · omega
 · exact absurd h (Q4 t.nd (i:=x.toNat) (j:=y.toNat) (by omega) (by omega) e)
theorem P4 {p:List Int}(t:x8 p){x:Int}(h:In p x):∀i,In p (it p i x)
 |0=>h
 |i+1=>cj8 t (P4 t h i)
theorem J5 (p:List Int)(x:Int):∀i j,it p (i+j) x=it p i (it p j x)
 |0,j=>by rw[ej5];rfl
 |i+1,j=>by
  rw[Nat.add_right_comm];show nx p (it p (i+j) x)=nx p (it p i (it p j x));rw[J5 p x i j]
theorem de6 (p:List Int)(x:Int)(i:Nat):it p (i+1) x=it p i (nx p x):=by
 rw[J5 p x i 1];rfl
theorem ax3 {p:List Int}(t:x8 p){x y:Int}(hx:In p x)(hy:In p y):∀i,it p i x=it p i y->x=y
 |0,h=>h
 |i+1,h=>ax3 t hx hy i (bi0 t (P4 t hx i) (P4 t hy i) h)
structure K7 (p:List Int)(x:Int)(L:Nat):Prop where
 pos:0 < L
 back:it p L x=x
 least:∀i,0 < i->i < L->it p i x≠x
theorem K7.uniq {p:List Int}{x:Int}{L M:Nat}(h:K7 p x L)(g:K7 p x M):L=M:=by
 rcases Nat.lt_trichotomy L M with z|z|z
 · exact absurd h.back (g.least L h.pos z)
 · exact z
 · exact absurd g.back (h.least M g.pos z)
theorem ax4 {p:List Int}{x:Int}{L:Nat}(h:it p L x=x):∀q,it p (L*q) x=x
 |0=>by rw[ek3];rfl
 |q+1=>by rw[ex9,J5,h,ax4 h q]
theorem ab1 {p:List Int}{x:Int}{L:Nat}(h:it p L x=x)(i:Nat):it p (i%L) x=it p i x:=by
 conv=>rhs;rw[<-eu6 i L,ej4,J5,ax4 h]
theorem cf1 {p:List Int}{x:Int}{L:Nat}(h:it p L x=x){a b:Nat}(e:a%L=b%L):it p a x=it p b x:=by
 rw[<-ab1 h a,e,ab1 h]
theorem K7.shift {p:List Int}(t:x8 p){x:Int}{L:Nat}(hx:In p x)(h:K7 p x L)(j:Nat):K7 p (it p j x) L:=by
 refine ⟨h.pos,?_,fun i i0 i1 e=> ?_⟩
 · rw[<-J5,ej4,J5,h.back]
 · rw[<-J5,ej4,J5] at e;exact h.least i i0 i1 (ax3 t (P4 t hx i) hx j e)
def l6 (p:List Int)(x:Int)(L:Nat):List Int:=(ef4 L).map fun i=>it p i x
theorem q9 (p:List Int)(x:Int)(L:Nat):(l6 p x L).length=L:=by unfold l6;rw[eb7,ee9]
theorem aa0 {p:List Int}{x:Int}{L j:Nat}(h:j < L):(l6 p x L)[j]? =some (it p j x):=by
 unfold l6;rw[ec1,eg8 h];rfl
theorem X1 {p:List Int}{x:Int}{L j:Nat}(h:j < L):(l6 p x L).getD j 0=it p j x:=by
 rw[ec3,aa0 h];rfl
theorem G6 {p:List Int}{x y:Int}{L:Nat}:y∈l6 p x L↔∃j,j < L/\y=it p j x:=by
 unfold l6;rw[ed2];constructor
 · rintro ⟨j,hj,rfl⟩;exact ⟨j,eg0.mp hj,rfl⟩
 · rintro ⟨j,hj,rfl⟩;exact ⟨j,eg0.mpr hj,rfl⟩
theorem ar8 (p:List Int)(x:Int)(m:Nat):l6 p x (m+1)=l6 p x m++[it p m x]:=by
 unfold l6;rw[el8,ec4];rfl
theorem Y5 {p:List Int}(t:x8 p){x:Int}(hx:In p x){m:Nat}(h:∀i,0 < i->i < m->it p i x≠x):(l6 p x m).Nodup:=by
 unfold l6;rw[ed5,el4];refine List.Pairwise.imp_of_mem (fun {a b} ha hb hlt e=> ?_) eq0;have hb:=eg0.mp hb
 have e2:b=a+(b - a):=by omega
 rw[e2,J5] at e;exact h (b - a) (by omega) (by omega) (ax3 t (P4 t hx _) hx a e.symm)
theorem cq2:∀(n:Nat) (l:List Nat),l.Nodup->(∀x∈l,x < n)->l.length<=n:=by
 intro n
 induction n with
 |zero=>
  intro l _ hb
  cases l with
  |nil=>exact ec0 _
  |cons a r=>exact absurd (hb a ec5) (Nat.not_lt_zero _)
 |succ n ih=>
  intro l nd hb
  by_cases hn:n∈l
  · obtain ⟨s,u,rfl⟩:=ev3 hn;have pm:(s++n::u).Perm (n::(s++u)):=List.perm_middle;obtain ⟨h1,h2⟩:=eg5.mp (pm.nodup_iff.mp nd)
    have:=ih (s++u) h2 fun x hx=>by
      have hx':=hb x (pm.mem_iff.mpr (ec7 _ hx))
      have:x≠n:=fun e=>h1 (e▸hx)
      omega
    rw[pm.length_eq,eg9];omega
  · exact Nat.le_succ_of_le (ih l nd fun x hx=>by
      have h1:=hb x hx
      have:x≠n:=fun e=>hn (e▸hx)
      omega)
theorem O9 {p:List Int}{r:List Int}(nd:r.Nodup)(h:∀x∈r,In p x):r.length<=p.length:=by
 have:=cq2 p.length (r.map eq5) (by
   rw[ed5,el4];refine List.Pairwise.imp_of_mem (fun {a b} ha hb hne z=>hne ?_) (ed5.mp nd);have h1:=(h a ha).1;have h2:=(h b hb).1
   omega) fun x hx=>by
     obtain ⟨y,hy,rfl⟩:=ed2.mp hx;have h1:=(h y hy).1;have h2:=(h y hy).2;omega
 rw[eb7] at this;exact this
theorem V8 {p:List Int}(t:x8 p){x:Int}(hx:In p x){L:Nat}:∀y∈l6 p x L,In p y:=fun y hy=>by
 obtain ⟨j,_,rfl⟩:=G6.mp hy;exact P4 t hx j
theorem O0 {p:List Int}(t:x8 p){x:Int}(hx:In p x){m:Nat}(h:∀i,0 < i->i < m->it p i x≠x):m<=p.length:=by
 have:=O9 (Y5 t hx h) (V8 t hx);rw[q9] at this;exact this
theorem cd1 {p:List Int}{x y:Int}{L:Nat}(h:K7 p x L)(hy:y∈l6 p x L)(i:Nat):it p i y∈l6 p x L:=by
 obtain ⟨j,hj,rfl⟩:=G6.mp hy;refine G6.mpr ⟨(i+j)%L,ei3 _ h.pos,?_⟩;rw[ab1 h.back,J5]
theorem cq3 {p:List Int}{x y z:Int}{L M:Nat}(h:K7 p x L)(g:K7 p y M)(h1:z∈l6 p x L)(h2:z∈l6 p y M):y∈l6 p x L:=by
 obtain ⟨j,hj,rfl⟩:=G6.mp h2;have:=cd1 h h1 (M - j);rw[<-J5,show M - j+j=M by omega,g.back] at this;exact this
open Classical in
noncomputable def X2 (p:List Int)(x:Int):Nat:=if h:∃L,K7 p x L then Classical.choose h else 0
theorem ai6 {p:List Int}{x:Int}{L:Nat}(h:K7 p x L):X2 p x=L:=by
 have hx:∃L,K7 p x L:=⟨L,h⟩;unfold X2;rw[dif_pos hx];exact (Classical.choose_spec hx).uniq h
noncomputable def t8 (p:List Int):Nat->List (List Int)
 |0=>[]
 |i+1=>if (i:Int)∈(t8 p i).flatten then t8 p i else t8 p i++[l6 p i (X2 p i)]
structure G0 (p:List Int)(i:Nat)(rs:List (List Int)):Prop where
 ring:∀r∈rs,∃x L,In p x/\K7 p x L/\r=l6 p x L/\(∀y∈r,x<=y)/\x < i
 nd:rs.flatten.Nodup
 all:∀u:Int,0<=u->u < i->u∈rs.flatten
 ord:rs.Pairwise fun r s=>r.getD 0 0 < s.getD 0 0
 eq:rs=t8 p i
theorem ar9 (p:List Int):G0 p 0 []:=⟨fun r hr=>by simp at hr,ei6,fun u h1 h2=>by omega,List.Pairwise.nil,rfl⟩
theorem as0 {p:List Int}{i:Nat}{rs:List (List Int)}(h:G0 p i rs)(hi:(i:Int)∈rs.flatten):G0 p (i+1) rs:=by
 refine ⟨fun r hr=> ?_,h.nd,fun u h1 h2=> ?_,h.ord,?_⟩
 · obtain ⟨x,L,a,b,c,d,e⟩:=h.ring r hr;exact ⟨x,L,a,b,c,d,by omega⟩
 · by_cases e:u=i
   · subst e;exact hi
   · exact h.all u h1 (by omega)
 · show rs=if (i:Int)∈(t8 p i).flatten then t8 p i else t8 p i++[l6 p i (X2 p i)]
   rw[<-h.eq,if_pos hi]
theorem am2 {p:List Int}{i:Nat}{rs:List (List Int)}(h:G0 p i rs){L:Nat}(hL:K7 p i L)(hi:(i:Int)∉rs.flatten):∀y∈l6 p i L,y∉rs.flatten:=by
 intro y hy hm;obtain ⟨r,hr,hyr⟩:=ee6.mp hm;obtain ⟨x,M,a,b,rfl,d,e⟩:=h.ring r hr;exact hi (ee6.mpr ⟨_,hr,cq3 b hL hyr hy⟩)
theorem as1 {p:List Int}(t:x8 p){i:Nat}{rs:List (List Int)}(h:G0 p i rs)(hx:In p i){L:Nat}(hL:K7 p i L)(hi:(i:Int)∉rs.flatten):G0 p (i+1) (rs++[l6 p i L]):=by
 have fr:=am2 h hL hi;refine ⟨fun r hr=> ?_,?_,fun u h1 h2=> ?_,?_,?_⟩
 · rcases ed0.mp hr with z|z
   · obtain ⟨x,L,a,b,c,d,e⟩:=h.ring r z;exact ⟨x,L,a,b,c,d,by omega⟩
   · have:r=l6 p i L:=by simpa using z
     subst this;refine ⟨i,L,hx,hL,rfl,fun y hy=> ?_,by omega⟩;have y0:=(V8 t hx y hy).1
     by_cases hlt:y < i
     · exact absurd (h.all y y0 hlt) (fr y hy)
     · omega
 · rw[ej0,ej3];refine eh0.mpr ⟨h.nd,Y5 t hx fun j j0 j1=>hL.least j j0 j1,fun a ha b hb e=> ?_⟩;subst e;exact fr a hb ha
 · rw[ej0,ej3]
   by_cases e:u=i
   · subst e;exact ed8 _ (G6.mpr ⟨0,hL.pos,rfl⟩)
   · exact ef7 _ (h.all u h1 (by omega))
 · refine List.pairwise_append.mpr ⟨h.ord,en7 _ _,fun r hr s hs=> ?_⟩
   have:s=l6 p i L:=by simpa using hs
   subst this;obtain ⟨x,M,a,b,rfl,d,e⟩:=h.ring r hr;rw[X1 b.pos,X1 hL.pos];exact e
 · show rs++[l6 p i L]=if (i:Int)∈(t8 p i).flatten then t8 p i else t8 p i++[l6 p i (X2 p i)]
   rw[<-h.eq,if_neg hi,ai6 hL]
def J3 (p:List Int)(k:Int)(t:List Int):Prop:=t.length=p.length/\∀x,In p x->∃L,K7 p x L/\C9 t x=some (it p (k%(L:Int)).toNat x)
theorem cj9 {p:List Int}{x:Int}{L:Nat}(h:K7 p x L)(k:Int)(j:Nat):it p (((j:Int)+k)%(L:Int)).toNat x=it p (k%(L:Int)).toNat (it p j x):=by
 rw[<-J5];refine cf1 h.back ?_
 have hL:(0:Int) < (L:Int):=by have:=h.pos;omega
 have a1:=eh7 ((j:Int)+k) (show (L:Int)≠0 by omega);have b1:=eh7 k (show (L:Int)≠0 by omega)
 have:(((((j:Int)+k)%(L:Int)).toNat%L:Nat):Int)=((((k%(L:Int)).toNat+j)%L:Nat):Int):=by
   rw[em1,em1,ep3 a1,eu7,ep3 b1,Int.emod_emod,Int.emod_add_emod,Int.add_comm]
 exact Int.ofNat.inj this
end Mth
namespace Mth
theorem ao6 {p:List Int}{x:Int}(h:In p x):C9 p x=some (nx p x):=by
 have a1:=h.1;have a2:=h.2;unfold C9 nx;rw[ec3,eb8 (by omega)];rfl
theorem de7 {p s:List Int}(t:x8 p)(h:J3 p (-1) s){x:Int}(hx:In p x):∃y,C9 s x=some y/\In p y/\nx p y=x:=by
 obtain ⟨L,hL,e⟩:=h.2 x hx;have hpos:=hL.pos
 have e1:((-1:Int)%(L:Int)).toNat=L - 1:=by
   have h1:(-1:Int)%(L:Int)=(L:Int) - 1:=by
     have:=Int.add_emod_right (-1:Int) (L:Int);rw[<-this,Int.emod_eq_of_lt (by omega) (by omega)];omega
   rw[h1];omega
 rw[e1] at e;refine ⟨_,e,P4 t hx _,?_⟩;show it p (L - 1+1) x=x;rw[show L - 1+1=L by omega,hL.back]
theorem ea2 {p s:List Int}(t:x8 p)(h:J3 p (-1) s){f:Nat->Int}(hf:∀u,u < p.length->∃j:Nat,f u=(j:Int)/\p[j]? =some (u:Int)):s=(ef4 p.length).map f:=by
 refine eg4 fun u=> ?_
 by_cases hu:u < p.length
 · obtain ⟨y,e,hy,en⟩:=de7 t h (x:=(u:Int)) ⟨by omega,by omega⟩;obtain ⟨j,e1,e2⟩:=hf u hu;have hj:j < p.length:=(eb9.mp e2).1
   have e3:nx p (j:Int)=(u:Int):=by
     unfold nx;rw[eg3,E9 hj];exact (eb9.mp e2).2
   have:y=(j:Int):=bi0 t hy ⟨by omega,by omega⟩ (by rw[en,e3]);unfold C9 at e;rw[eg3] at e;rw[e,ec1,eg8 hu,this];show some (j:Int)=some (f u);rw[e1]
 · rw[ed1 (by rw[h.1];omega),ed1 (by rw[eb7,ee9];omega)]
end Mth
namespace Mth
theorem J3.uniq {p:List Int}{k:Int}{s t:List Int}(h:J3 p k s)(g:J3 p k t):s=t:=by
 refine eg4 fun u=> ?_
 by_cases hu:u < p.length
 · have hx:In p (u:Int):=⟨by omega,by omega⟩;obtain ⟨L,h1,h2⟩:=h.2 u hx;obtain ⟨M,g1,g2⟩:=g.2 u hx;have e:=h1.uniq g1;subst e;unfold C9 at h2 g2;rw[eg3] at h2 g2;rw[h2,g2]
 · rw[ed1 (by rw[h.1];omega),ed1 (by rw[g.1];omega)]
end Mth
namespace Mth
theorem ax5 {p:List Int}(t:x8 p){x:Int}(hx:In p x):∃L,K7 p x L:=by
 have h0:∃i,0 < i/\i<=p.length/\it p i x=x:=Classical.byContradiction fun hn=>by
   have:=O0 t hx (m:=p.length+1) fun i i0 i1 e=>hn ⟨i,i0,by omega,e⟩
   omega
 have key:∀n,(∃i,0 < i/\i<=n/\it p i x=x)->∃L,K7 p x L:=by
   intro n
   induction n with
   |zero=>rintro ⟨i,i0,i1,_⟩;omega
   |succ n ih=>
    rintro ⟨i,i0,i1,e⟩
    by_cases h:∃j,0 < j/\j<=n/\it p j x=x
    · exact ih h
    · refine ⟨i,i0,e,fun j j0 j1 ej=>h ⟨j,j0,by omega,ej⟩⟩
 exact key _ h0
theorem cf2 {p:List Int}{x:Int}{L:Nat}(h:K7 p x L){i:Nat}(e:it p i x=x):L∣i:=by
 rw[<-ab1 h.back] at e;refine Nat.dvd_of_mod_eq_zero (Classical.byContradiction fun hn=> ?_);exact h.least (i%L) (by omega) (ei3 _ h.pos) e
theorem bw5 {p:List Int}{x:Int}{L:Nat}(h:K7 p x L){a b:Nat}(e:((a:Int) - (b:Int))%(L:Int)=0):it p a x=it p b x:=by
 refine cf1 h.back ?_
 have:((a%L:Nat):Int)=((b%L:Nat):Int):=by
   rw[em1,em1]
   exact Int.emod_emod_of_dvd _ (Int.dvd_refl _)|>.symm.trans (by
     rw[Int.emod_emod]
     exact (Int.emod_eq_emod_iff_emod_sub_eq_zero).mpr e)
 exact Int.ofNat.inj this
theorem bq0 {t:List Int}(h1:∀x:Int,0<=x->x < t.length->0<=nx t x/\nx t x < t.length)(h2:∀x y:Int,0<=x->x < t.length->0<=y->y < t.length->nx t x=nx t y->x=y):x8 t:=by
 have g:∀i (hi:i < t.length),nx t (i:Int)=t[i]:=fun i hi=>by unfold nx;rw[eg3,E9 hi]
 refine ⟨?_,fun x hx=> ?_,fun x hx=> ?_⟩
 · rw[ed5,ee7];intro i j hi hj hlt e;have:=h2 i j (by omega) (by omega) (by omega) (by omega) (by rw[g i hi,g j hj];exact e);omega
 · obtain ⟨i,hi,rfl⟩:=List.mem_iff_getElem.mp hx;rw[<-g i hi];exact (h1 i (by omega) (by omega)).1
 · obtain ⟨i,hi,rfl⟩:=List.mem_iff_getElem.mp hx;rw[<-g i hi];exact (h1 i (by omega) (by omega)).2
theorem cq4 {p t:List Int}{k:Int}(h:J3 p k t){x:Int}(hx:In p x):∃L,K7 p x L/\∀m:Nat,((m:Int) - k)%(L:Int)=0->nx t x=it p m x:=by
 obtain ⟨L,hL,e⟩:=h.2 x hx;refine ⟨L,hL,fun m hm=> ?_⟩
 have e1:nx t x=it p (k%(L:Int)).toNat x:=by
   have hx':In t x:=⟨hx.1,by rw[h.1];exact hx.2⟩;rw[ao6 hx'] at e;exact Option.some.inj e
 rw[e1];refine bw5 hL ?_;have b0:=eh7 k (show (L:Int)≠0 by have:=hL.pos;omega);rw[ep3 b0]
 have:k%(L:Int) - (m:Int)= -(((m:Int) - k)+(k - k%(L:Int))):=by omega
 rw[this];have d1:(L:Int)∣((m:Int) - k):=Int.dvd_of_emod_eq_zero hm;have d2:(L:Int)∣(k - k%(L:Int)):=et7;exact es8 (Int.dvd_neg.mpr (Int.dvd_add d1 d2))
theorem dn3 {p t:List Int}{k:Int}(tp:x8 p)(hl:t.length=p.length)(h:∀x,In p x->∀L,K7 p x L->∃m:Nat,((m:Int) - k)%(L:Int)=0/\nx t x=it p m x):J3 p k t:=by
 refine ⟨hl,fun x hx=> ?_⟩;obtain ⟨L,hL⟩:=ax5 tp hx;obtain ⟨m,hm,e⟩:=h x hx L hL;refine ⟨L,hL,?_⟩;rw[ao6 (p:=t) ⟨hx.1,by rw[hl];exact hx.2⟩,e]
 congr 1
 refine bw5 hL ?_;have b0:=eh7 k (show (L:Int)≠0 by have:=hL.pos;omega);rw[ep3 b0]
 have:(m:Int) - k%(L:Int)=((m:Int) - k)+(k - k%(L:Int)):=by omega
 rw[this];exact es8 (Int.dvd_add (Int.dvd_of_emod_eq_zero hm) et7)
theorem cy3 (k:Int)(L:Nat)(h:0 < L):(((k%(L:Int)).toNat:Int) - k)%(L:Int)=0:=by
 have b0:=eh7 k (show (L:Int)≠0 by omega);rw[ep3 b0]
 have:k%(L:Int) - k= -(k - k%(L:Int)):=by omega
 rw[this];exact es8 (Int.dvd_neg.mpr et7)
theorem de8 {p t:List Int}{k:Int}(tp:x8 p)(h:J3 p k t):x8 t:=by
 have tx:∀x,In p x->∃L,K7 p x L/\nx t x=it p (k%(L:Int)).toNat x:=fun x hx=>by
   obtain ⟨L,hL,e⟩:=cq4 h hx;exact ⟨L,hL,e _ (cy3 k L hL.pos)⟩
 refine bq0 (fun x x0 x1=> ?_) (fun x y x0 x1 y0 y1 e=> ?_)
 · rw[h.1] at x1 ⊢;obtain ⟨L,hL,e⟩:=tx x ⟨x0,x1⟩;rw[e];exact P4 tp ⟨x0,x1⟩ _
 · rw[h.1] at x1 y1;obtain ⟨L,hL,e1⟩:=tx x ⟨x0,x1⟩;obtain ⟨M,hM,e2⟩:=tx y ⟨y0,y1⟩;rw[e1,e2] at e;have pL:=hL.shift tp ⟨x0,x1⟩ (k%(L:Int)).toNat;have pM:=hM.shift tp ⟨y0,y1⟩ (k%(M:Int)).toNat;rw[e] at pL;have:=pL.uniq pM;subst this;exact ax3 tp ⟨x0,x1⟩ ⟨y0,y1⟩ _ e
end Mth
namespace L2
open PySem PySem.Spec PyProof.Rows
section
variable {X:Cx} {o e:Expr} {to:TE} {t:TA} {apos pos p:Pos}
theorem cq5 (ho:PE X o to)(ha:PA X [e] t)
   (hbase:attributeBase o "extend" X.env (eval o X.env)=eval o X.env:=by rfl)
   (hfew:((backTo pos (starEach [e] X.env)).all (fun x=> !x.1)&&(backToKw pos (keywordEach [] X.env)).all (fun x=>x.1.isSome)
     &&decide ([e].length+([]:List Keyword).length+(if ([]:List Keyword).isEmpty then 0 else 1) < 30))=true:=by rfl)
   (hline:(apos.endLine==pos.line)=true:=by rfl) (hs:starEach [e] X.env=(false,eval e X.env)::starEach [] X.env:=by rfl) (hplain:(backTo pos (starEach [] X.env)).any (·.1)=false:=by rfl):
   PE X (.Call (.Attribute o "extend" apos) [e] [] pos) (tBM X.K "list" ce8 to t):=
 ba7 PySem.F.plainAttrs_list PySem.F.slot_list_extend PySem.F.type_list_extend co4 ho ha hbase hfew hline hs hplain
def de9 (K:PySem.W.Frag)(t:TA):TE:=tCB (fun xs H Q=>∃p ys,xs=[.ref p]/\(g9 K H p ys\/Q0 K H p ys)/\∀l,H l=none->Q (.ref l) (c9 H l (.lst ys))) t
theorem ck0 (K:PySem.W.Frag)(hm:X.mg "list"=none)(ha:PA X [e] t)(hK:X.K=K:=by rfl)(hg:Gl X "list":=by rfl)(he:starEach [e] X.env=(false,eval e X.env)::starEach [] X.env:=by rfl):
   PE X (.Call (.Name "list" p) [e] [] pos) (de9 K t):=by
 subst hK;exact al0 hm ha hg he
end
theorem be3 (xs:List V)(k:Nat)(h:k<=xs.length):aq5 xs (some (k:Int)) none=xs.drop k:=by
 unfold aq5;rw[HT.ea0,HT.dy4,eu8 h,el3 (by rw[eg1];omega)]
theorem cq6 (xs:List V)(k:Nat)(h:k<=xs.length):aq5 xs none (some (k:Int))=xs.take k:=by
 unfold aq5;rw[HT.ea0,HT.dy4,eu8 h,ez0,Nat.sub_zero]
def ab2 (H:Hp)(e:Addr):List Int:=match H e with
 |some (.lst xs)=>xs.map bh9
 |_=>[]
theorem be4 {H:Hp}{e:Addr}{r:List Int}(h:H e=some (.lst (r.map V.int))):ab2 H e=r:=by
 unfold ab2;rw[h];show (r.map V.int).map bh9=r;rw[eh3]
 conv=>rhs;rw[<-eq6 r]
 rfl
theorem ck1 {H:Hp}{as:List Addr}{rs:List (List Int)}(h:m9 H as rs):as.map (ab2 H)=rs:=by
 refine eg4 fun j=> ?_
 rw[ec1]
 by_cases hj:j < as.length
 · have e1:as[j]? =some as[j]:=eb8 hj;have e2:rs[j]? =some (rs[j]'(by rw[<-h.1];exact hj)):=eb8 _;rw[e1,e2];show some (ab2 H as[j])=_;rw[be4 (h.2 j _ _ e1 e2)]
 · rw[ed1 (by omega),ed1 (by rw[<-h.1];omega)];rfl
end L2
namespace Mth
theorem df0 {p:List Int}{rs:List (List Int)}(t:x8 p)(h:G0 p p.length rs):rs.flatten.Perm (L2.Y0 0 p.length):=by
 have i1:x8 rs.flatten:=by
   have hin:∀x∈rs.flatten,In p x:=fun x hx=>by
     obtain ⟨r,hr,hxr⟩:=ee6.mp hx;obtain ⟨y,L,a,b,rfl,_⟩:=h.ring r hr;exact V8 t a x hxr
   have l1:=O9 h.nd hin
   have l2:p.length<=rs.flatten.length:=by
     have:=O9 (p:=rs.flatten) (r:=L2.Y0 0 p.length) (S9 _) fun x hx=>by
       have hx':=R0.mp hx;obtain ⟨r,hr,hxr⟩:=ee6.mp (h.all x hx'.1 hx'.2);refine ⟨hx'.1,?_⟩
       exact Classical.byContradiction fun hn=>by
         have hle:(rs.flatten.length:Int)<=x:=by omega
         have hlt:=O9 h.nd hin
         have q:(L2.Y0 0 (x.toNat+1)).length<=rs.flatten.length:=by
           have sub:∀z∈L2.Y0 0 (x.toNat+1),z∈rs.flatten:=fun z hz=>by
             have hz':=R0.mp hz;exact h.all z hz'.1 (by have:=hx'.2;omega)
           have:∀(l m:List Int),l.Nodup->(∀z∈l,z∈m)->l.length<=m.length:=by
             intro l
             induction l with
             |nil=>intro m _ _;exact ed7 _
             |cons c l ih=>
              intro m nd hs;obtain ⟨n1,n2⟩:=eg5.mp nd;obtain ⟨s,u,rfl⟩:=ev3 (hs c ec5)
              have:=ih (s++u) n2 fun z hz=>by
                have hzm:=hs z (ec7 _ hz)
                rcases ed0.mp hzm with g|g
                · exact ef7 _ g
                · rcases ee0.mp g with g|g
                  · subst g;exact absurd hz n1
                  · exact ed8 _ g
              rw[ec6] at this;rw[ec6,eg9,eg9];omega
           exact this _ _ (S9 _) sub
         rw[J9] at q;have:=hx'.1;omega
     rw[J9] at this;exact this
   exact ⟨h.nd,fun x hx=>(hin x hx).1,fun x hx=>by have:=(hin x hx).2;omega⟩
 have hl:rs.flatten.length=p.length:=by
   have l1:=O9 h.nd fun x hx=>by
     obtain ⟨r,hr,hxr⟩:=ee6.mp hx;obtain ⟨y,L,a,b,rfl,_⟩:=h.ring r hr;exact V8 t a x hxr
   have l2:p.length<=rs.flatten.length:=by
     have:=O9 (p:=rs.flatten) (r:=L2.Y0 0 p.length) (S9 _) fun x hx=>by
       have hx':=R0.mp hx;have hm:=h.all x hx'.1 hx'.2;exact ⟨hx'.1,i1.hi x hm⟩
     rw[J9] at this;exact this
   omega
 have:=i1.perm;rw[hl] at this;exact this
end Mth
namespace L2
open PySem PySem.Spec PyProof.Rows
theorem ax6:bootBuiltins "sorted"=some (.builtin "sorted"):=by decide+kernel
section
variable {X:Cx}
theorem cd2 {pins:List (Addr×Obj)}{σ:St}{H:Hp}{s:Shared}(I:i4 X pins σ H s){vs:List Value}{out:Array Value}{ms:List Int}(h:IntsAre out.toList ms)(hl:ms.length<=sizeLine):
   i4 X pins σ (c9 H (s.heap.objs.size+1) (.lst (ms.map V.int))) {s with heap:=sortedAll s.heap vs out,toks:=s.toks}:=by
 obtain ⟨e,he⟩:=sortedAll_at s.heap vs out;refine I.laid (t':=s.toks) (fun _ _ q=>sortedAll_old q) (er9 _) (show B0 X.prog X.w _ _ _ (.lst (ms.map V.int)) from ⟨by rw[eb7];exact hl,out.toList,e,aw9 h,he⟩)
theorem cd3:W9 X (.builtin "sorted") (fun xs H Q=>∃(p:Addr) (ns:List Int),xs=[.ref p]/\g9 X.K H p (ns.map V.int)/\ns.length < 64/\∀(ms:List Int) l,ms.Perm ns->ms.Pairwise (· <= ·)->H l=none->Q (.ref l) (c9 H l (.lst (ms.map V.int)))):=by
 intro pins s σ H xs us Q I r h;obtain ⟨p,ns,rfl,hp,h64,q⟩:=h;obtain ⟨u,rfl,rx⟩:=ak7 r;cases rx;obtain ⟨its,rv,pl,_⟩:=I.list hp;have ia:=aa9 rv;have il:=ia.length
 refine sorted_ints pl.isList ia (by omega) fun out ms a1 a2 a3=> ?_
 have hl:ms.length<=sizeLine:=by rw[a2.length_eq];exact ei1 (t5 (by omega))
 exact ⟨.ref (s.heap.objs.size+1),_,cd2 I a1 hl,rfl,q ms _ a2 a3 (I.hok.fresh (er9 _))⟩
variable {e:Expr} {t:TA} {p pos kpos:Pos}
theorem cq7 (hm:X.mg "sorted"=none)(ha:PA X [e] t)(hg:Gl X "sorted":=by rfl)(he:starEach [e] X.env=(false,eval e X.env)::starEach [] X.env:=by rfl):
   PE X (.Call (.Name "sorted" p) [e] [] pos) (tCB (fun xs H Q=>∃(p:Addr) (ns:List Int),xs=[.ref p]/\g9 X.K H p (ns.map V.int)/\ns.length < 64/\∀(ms:List Int) l,ms.Perm ns->ms.Pairwise (· <= ·)->H l=none->Q (.ref l) (c9 H l (.lst (ms.map V.int)))) t):=
 V6 cd3 hg hm ax6 ha (by decide) (by decide) he rfl
def dz3 (K:PySem.W.Frag)(te:TE)(ts:TO):TE:=fun σ H Q=>te σ H fun x H1=>ts σ H1 fun o H2=>o=some (-1)/\∃a xs,x= .ref a/\g9 K H2 a xs/\∀p,H2 p=none->Q (.ref p) (c9 H2 p (.lst xs.reverse))
theorem dn4 {st:Expr}{te:TE}{ts:TO}{p2:Pos}(he:PE X e te)(hst:PO X (some st) ts):PE X (.Subscript e (.Slice none none (some st) p2) pos) (dz3 X.K te ts):=by
 intro pins s σ H Q I h;refine Subscript_ (t7 (he pins s σ H _ I h) fun v s1 ⟨x,H1,I1,r1,q1⟩=> ?_);refine wpAny_Slice ?_;rw[evalPart_none];refine wpAny_pure (wpAny_pure ?_)
 refine t7 (hst pins s1 σ H1 _ I1 q1) fun vk s3 ⟨k,H3,I3,pk,ek,a,xs,ex,hx,q⟩=> ?_
 subst ek ex;cases r1
 have I4:i4 X pins σ H3 {s3 with heap:=s3.heap.push {cls:= .type "slice",data:= .fields #[.none,.none,vk]}}:=I3.kept (t':=s3.toks) fun b ob q=>Heap.get?_push_of_some _ q
 obtain ⟨its,r,ht,hz⟩:=I4.list hx;have hlen:=r.length;show wpAny (model X.prog X.w) X.A (subscriptTail e (.Slice none none (some st) p2) (.ref a) (.ref s3.heap.objs.size)) (EP X pins σ Q) X.xe {s3 with heap:=s3.heap.push {cls:= .type "slice",data:= .fields #[.none,.none,vk]}};refine tail_any (ops:=[.ref a,.ref s3.heap.objs.size]) (T:="list") ht.isList.typeIs slot_list_getitem.lookup ?_ rfl;refine wpAny_getItem_list_slice ht.isList (Heap.IsSliceOf.new ..) .none .none pk (by decide) ?_ (by rw[ed4]<;>omega);rw[PySem.W.krv_pick]
 have I5:=I4.laid (t':=s3.toks) (o:= .lst xs.reverse) (h':=(s3.heap.push {cls:= .type "slice",data:= .fields #[.none,.none,vk]}).push {cls:= .type "list",data:= .seq its.reverse.toArray}) (a:=(s3.heap.push {cls:= .type "slice",data:= .fields #[.none,.none,vk]}).objs.size)
   (fun b ob q=>Heap.get?_push_of_some _ q) (ec0 _) ⟨by rw[eo0];exact hz,its.reverse,0,r.reverse,Heap.get?_push_size _ rfl⟩
 exact ⟨.ref _,_,I5,rfl,q _ (I4.hok.fresh (ec0 _))⟩
end
end L2
namespace Mth
theorem bd1:∀{a b:List Int},a.Perm b->a.Pairwise (· ≥ ·)->b.Pairwise (· ≥ ·)->a=b
 |[],b,h,_,_=>by rw[List.nil_perm.mp h]
 |x::a,[],h,_,_=>by exact absurd h.length_eq (by simp)
 |x::a,y::b,h,ha,hb=>by
  obtain ⟨a1,a2⟩:=ep6.mp ha;obtain ⟨b1,b2⟩:=ep6.mp hb
  have hxy:x=y:=by
    have h1:x∈y::b:=h.mem_iff.mp ec5;have h2:y∈x::a:=h.mem_iff.mpr ec5
    have l1:y≥x:=by
      rcases ee0.mp h1 with e|e
      · exact Int.le_of_eq e
      · exact b1 x e
    have l2:x≥y:=by
      rcases ee0.mp h2 with e|e
      · exact Int.le_of_eq e
      · exact a1 y e
    omega
  subst hxy;rw[bd1 ((List.perm_cons x).mp h) a2 b2]
theorem al1 {a:List Int}(h:a.Pairwise (· <= ·)):a.reverse.Pairwise (· ≥ ·):=et8.mpr h
end Mth
namespace L2
open PySem PySem.Spec PyProof.Rows
def ax7:List Expr->Option (List Int)
 |[]=>some []
 | .Constant (.int i) _ _::es=>(ax7 es).map (i:: ·)
 |_::_=>none
def dt1 (ns:List Int):TA:=fun _ H Q=>Q (ns.map V.int) H
def dt2 (ns:List Int):TE:=fun _ H Q=>ns.length<=sizeLine/\∀p,H p=none->Q (.ref p) (c9 H p (.lst (ns.map V.int)))
theorem bw6 (i:Int)(j:Nat)(p:Pos)(es:List Expr)(env:Env):starEach (.Constant (.int i) j p::es) env=(false,eval (.Constant (.int i) j p) env)::starEach es env:=rfl
theorem be5 {X:Cx}:∀(es:List Expr) (ns:List Int),ax7 es=some ns->PA X es (dt1 ns)
 |[],ns,h=>by
  have:ns=[]:=(Option.some.inj h).symm;subst this
  exact fun pos pins s σ H Q I h=>c6 pos pins s σ H Q I h
 |e::es,ns,h=>by
  unfold ax7 at h
  split at h
  · rename_i h0;cases h0
  · rename_i i j p es' heq;cases heq
    cases ho:ax7 es with
    |none=>rw[ho] at h;cases h
    |some ms=>
     rw[ho] at h;cases h
     exact fun pos pins s σ H Q I h=>(c5 (te:=tC (.int i)) g8 (be5 es ms ho) (bw6 i j p es X.env)) pos pins s σ H Q I h
  · cases h
theorem bw7 {X:Cx}{pos:Pos}{es:List Expr}(ns:List Int)(h:ax7 es=some ns):PE X (.List es pos) (dt2 ns):=fun pins s σ H Q I h'=>o6 (be5 es ns h) pins s σ H Q I (by
 show (ns.map V.int).length<=sizeLine/\_
 rw[eb7];exact h')
end L2
namespace L2
open PySem PySem.Spec PyProof.Rows
theorem cq8 {H:Hp}{a:Addr}{as:List Addr}{r:List Int}{rs:List (List Int)}(h:H a=some (.lst (r.map V.int)))(hr:m9 H as rs):m9 H (a::as) (r::rs):=by
 refine ⟨by rw[eg9,eg9,hr.1],fun j b q h1 h2=> ?_⟩
 cases j with
 |zero=>
  rw[ey0] at h1 h2;cases h1;cases h2;exact h
 |succ j=>
  rw[ey1] at h1 h2;exact hr.2 j b q h1 h2
theorem be6 {H:Hp}:∀{as bs:List Addr} {rs qs:List (List Int)},m9 H as rs->m9 H bs qs->m9 H (as++bs) (rs++qs)
 |[],bs,[],qs,_,h=>h
 |[],bs,r::rs,qs,h,_=>by have:=h.1;simp at this
 |a::as,bs,[],qs,h,_=>by have:=h.1;simp at this
 |a::as,bs,r::rs,qs,h,h'=>cq8 (h.2 0 a r rfl rfl) (be6 ⟨by have:=h.1;simpa using this,fun j b q h1 h2=>h.2 (j+1) b q h1 h2⟩ h')
end L2
namespace L2
open PySem PySem.Spec PyProof.Rows
section
variable {X:Cx}
theorem cy4 {P:Program}{w:World}{k:w6}{u:Value}(h:(E6 P w).is k u=true):o7 (kV k) u:=by
 cases k with
 |inl i=>
  cases u with
  |int j t=>
   have:i=j:=by
     have h2:=KeyKind.is_eq_decide (knd:=E6 P w) (bc7 P w j t) (Sum.inl i);rw[h] at h2;have:=of_decide_eq_true h2.symm;exact Sum.inl.inj this
   subst this;exact ⟨t,rfl⟩
  |_=>cases h
 |inr x=>
  cases u with
  |str y t=>
   have:x=y:=by
     have h2:=KeyKind.is_eq_decide (knd:=E6 P w) (bc8 P w y t) (Sum.inr x);rw[h] at h2;have:=of_decide_eq_true h2.symm;exact Sum.inr.inj this
   subst this;exact ⟨t,rfl⟩
  |_=>cases h
theorem i4.freeze {pins:List (Addr×Obj)}{σ:St}{H:Hp}{s:Shared}{a:Addr}{kvs:List (w6×V)}{o:Obj}(I:i4 X pins σ H s)(e:H a=some (.dK kvs))(ho:s.heap.get? a=some o):i4 X pins σ (c9 H a (.frz o (.dK kvs))) s:=by
 have ok:B0 X.prog X.w H s.heap a (.dK kvs):=I.hok a _ e;exact ba8 (h':=s.heap) (t':=s.toks) I (by rw[e];exact True.intro) ⟨rfl,fun b _=>rfl⟩ ⟨o,ho⟩ ⟨ho,ok⟩
def Itd (d:Addr)(o:Obj)(kvs:List (w6×V)):It:=
 ⟨fun i H=>H d=some (.frz o (.dK kvs))/\i < kvs.length,fun i H x H'=>H'=H/\∃k v,kvs[i]? =some (k,v)/\x=kV k,fun i H=>H d=some (.frz o (.dK kvs))/\kvs.length<=i⟩
theorem dc6 {P:Program}{w:World}{H:Hp}{h:Heap}{d:Addr}{o:Obj}{kvs:List (w6×V)}(x:B0 P w H h d (.frz o (.dK kvs))){es:Array DictEntry}{ep:Nat}(hd:o.data= .dict es ep):∃vs,KV kvs vs/\h.DictAt (E6 P w) d vs ep:=by
 obtain ⟨ho,_,_,vs,rel,o',es',ep',ho',hc,hd',r⟩:=x;rw[ho] at ho';cases ho';rw[hd] at hd';cases hd';exact ⟨vs,rel,o,es,ho,hc,hd,r⟩
theorem ck2 {α β:Type}{R:α->β->Prop}{xs:List α}{ys:List β}(h:Paired R xs ys):∀{i:Nat} {x:α},xs[i]? =some x->∃y,ys[i]? =some y/\R x y:=by
 induction h with
 |nil=>intro i x e;simp at e
 |cons r _ ih=>
  intro i x e
  cases i with
  |zero=>rw[ey0] at e;cases e;exact ⟨_,rfl,r⟩
  |succ i=>rw[ey1] at e;exact ih e
theorem ax8 {P:Program}{w:World}{K:PySem.W.Frag}{tg:Expr}(d it:Addr)(o:Obj)(kvs:List (w6×V))(es:Array DictEntry)(ep:Nat)(hdat:o.data= .dict es ep):bl0 P w K tg (Itd d o kvs) [it] it (fun i h=>h.IsKeyIter it d i kvs.length ep) where
 mem:=by simp
 obj:=fun i h st b hb=>by
   have e:b=it:=by simpa using hb
   subst e;obtain ⟨o,e,c,d⟩:=st;exact ⟨o,e,fun v z=>by rw[d] at z;cases z⟩
 keep:=fun i h h' st k=>by
   obtain ⟨o,e,r⟩:=st;exact ⟨o,k it (by simp) o e,r⟩
 item:=by
   intro X hP hw hK hc i pins s σ H E I hf st hg;subst hP hw hK;obtain ⟨hH,hi⟩:=hg;obtain ⟨vs,rel,hat⟩:=dc6 (I.hok d _ hH) hdat;have hl:kvs.length=vs.length:=rel.length;obtain ⟨f0,f1,f2,f3,f4,f5⟩:=hf it (by simp);have e1:kvs[i]? =some (kvs[i].1,kvs[i].2):=eb8 hi;generalize kvs[i].1=k at e1;generalize kvs[i].2=v at e1;obtain ⟨⟨k',u⟩,e2,e3,_⟩:=ck2 rel e1;have e3:k=k':=e3;subst e3;rw[hl] at st
   refine wpAny_pyNext_dict_item st hat e2 fun key h' hk st' sb=> ?_
   have I1:i4 X pins σ H {s with heap:=h'}:=I.turned (t':=s.toks) (fun b o hb e=>(sb.2 b hb).trans e) f0 f1 f3 f4 f5;obtain ⟨o,e,c,dd⟩:=id st';exact ⟨key,rfl,bt5 (s:={s with heap:=h'}) e c dd (by decide) ⟨kV k,H,I1,cy4 hk,⟨rfl,k,v,e1,rfl⟩,by rw[hl];exact st',fun b hb=>(hf b hb).1⟩⟩
 done:=by
   intro X hP hw hK hc i pins s σ H E I hf st hg;subst hP hw hK;obtain ⟨hH,hi⟩:=hg;obtain ⟨vs,rel,hat⟩:=dc6 (I.hok d _ hH) hdat;have hl:kvs.length=vs.length:=rel.length;obtain ⟨f0,f1,f2,f3,f4,f5⟩:=hf it (by simp);rw[hl] at st
   exact wpAny_pyNext_dict_end (I.ok.hd hc) st hat (ed1 (by omega)) fun h' eb=>⟨rfl,I.turned (t':=s.toks) (fun b o hb e=>eb b o hb e) f0 f1 f3 f4 f5⟩
 self:=fun _ _ _ _ _ st h=>wpAny_pyIter_keyiter st h
def dt3 (td:TE):TI:=fun σ H R=>td σ H fun x H1=>∃d kvs,x= .ref d/\H1 d=some (.dK kvs)/\∀o,R (Itd d o kvs) (c9 H1 d (.frz o (.dK kvs)))
theorem bl4 {tg l:Expr}{tl:TE}(hl:PE X l tl):PI X tg l (dt3 tl):=by
 intro pins s σ H R I h
 refine t7 (hl pins s σ H _ I h) fun v s1 ⟨x,H1,I1,r1,q1⟩=> ?_
 obtain ⟨d,kvs,e,hH,q⟩:=q1;subst e;cases r1;obtain ⟨_,hsm,vs,rel,o,es,ep,ho,hc,hdat,rr⟩:=(show B0 X.prog X.w H1 s1.heap d (.dK kvs) from I1.hok d _ hH);have hat:s1.heap.DictAt (E6 X.prog X.w) d vs ep:=⟨o,es,ho,hc,hdat,rr⟩;have I2:=I1.freeze hH ho;refine wpAny_pyIter_dict hsm hat ?_;have hlen:kvs.length=vs.length:=rel.length;refine ⟨s1.heap.objs.size,[s1.heap.objs.size],_,_,_,rfl,I2.kept (t':=s1.toks) fun b o e=>Heap.get?_push_of_some _ e,ax8 d _ o kvs es ep hdat,⟨_,Heap.get?_push_size _ rfl,rfl,by rw[hlen];rfl⟩,fun b hb=> ?_,q o⟩
 have e:b=s1.heap.objs.size:=by simpa using hb
 subst e;exact I2.fpOk (ec0 _) (I2.hok.fresh (ec0 _))
theorem as2 {d:Addr}{o:Obj}{kvs:List (w6×V)}{g:TG}{tb:TS}{D:S6}{σ:St}{H:Hp}(Pv:Nat->St->Hp->Prop)(h0:Pv 0 σ H)(hl:∀i σ H,i<=kvs.length->Pv i σ H->H d=some (.frz o (.dK kvs)))
   (hs:∀i k v σ H,kvs[i]? =some (k,v)->Pv i σ H->g (kV k) σ H fun σ2 H2=>tb {D with nx:=Pv (i+1),ct:=Pv (i+1),bk:=D.nx} σ2 H2) (hd:∀σ H,Pv kvs.length σ H->D.nx σ H):
   ∃W:Nat->Nat->St->Hp->Prop,(∃m,W 0 m σ H)/\∀i m σ H,W i m σ H->
    ((Itd d o kvs).stop i H/\D.nx σ H)\/((Itd d o kvs).go i H/\∃N:St->Hp->Prop,(∀σ' H',N σ' H'->∃m',m' < m/\W (i+1) m' σ' H')/\∀x H',(Itd d o kvs).yld i H x H'->g x σ H' fun σ2 H2=>tb {D with nx:=N,ct:=N,bk:=D.nx} σ2 H2):=by
 refine ⟨fun i m σ H=>m=kvs.length - i/\i<=kvs.length/\Pv i σ H,⟨kvs.length,by simp,ed7 _,h0⟩,?_⟩;rintro i m σ H ⟨rfl,hi,p⟩;have q:=hl i σ H hi p
 by_cases hlt:i < kvs.length
 · refine .inr ⟨⟨q,hlt⟩,Pv (i+1),fun σ' H' p'=>⟨kvs.length - (i+1),by omega,rfl,hlt,p'⟩,fun x H' y=> ?_⟩;obtain ⟨e,k,v,y1,y2⟩:=y;subst e y2;exact hs i k v σ _ y1 p
 · have e:i=kvs.length:=by omega
   subst e;exact .inl ⟨⟨q,ec0 _⟩,hd σ H p⟩
theorem am3 {prog:Program}{w:World}{κ:Type}[DecidableEq κ](knd:KeyKind prog w κ){k:κ}{key:Value}(d:Addr)(hkey:knd.is k key=true)(hd:(d==sysModules)=false)(dflt:Value):
   MeetsIn prog w (Builtin.«dict.setdefault» ⟨[.ref d,key,dflt],[]⟩) (fun _ R s=>∃kvs,s.heap.DictOf knd d kvs/\kvs.length<=sizeLine/\
     (∀v,valueAt kvs k=some v->R (.ok (.ret v)) {s with toks:=s.toks+1})/\
     (valueAt kvs k=none->∀h',h'.DictOf knd d (kvs++[(k,dflt)])->Heap.SameBut d s.heap h'->R (.ok (.ret dflt)) {s with heap:=h',toks:=s.toks+1})):=
 .of_wp fun A R s ⟨kvs,hm,hz,h1,h2⟩=>by
   unfold Builtin.«dict.setdefault»;refine wpAny_bind ?_;unfold Builtin.Dict.keyAndDefault;refine wpAny_bind (wpAny_notOrdered_dict hm.typeIs ?_);show wpAny _ _ (pure (d,key,some dflt)) _ _ s;refine wpAny_pure ?_;show wpAny _ _ (if (d==sysModules)=true then _ else (dictSetDefault d key dflt >>=_)) _ _ s;rw[if_neg (by rw[hd];exact ee2)];obtain ⟨o,es,ep,ho,hc,hdat,hk,hp,hn⟩:=id hm
   have hes:es.size<=sizeLine:=by
     have e1:=hp.length
     have e2:es.toList.length=es.size:=by simp
     omega
   have hf:=hm.mapOf;refine wpAny_bind ?_;unfold dictSetDefault
   try with_reducible refine wpAny_holding ?_
   refine wpAny_bind (knd.pyHash hkey ?_);refine wpAny_bind (wpAny_dictFind_of (s:={s with toks:=s.toks+1}) hkey ho hdat hk ?_)
   have hidx:(es.findIdx? fun e=>knd.is k e.key)=kvs.findIdx? fun kv=>decide (kv.1=k):=by
     rw[<-hp.findIdx k];obtain ⟨l⟩:=es;simp
   have hfb:findBy knd.is es k=valueAt kvs k:=by
     rw[<-hp.find k];obtain ⟨l⟩:=es;simp [findBy]
   rw[findBy_of_findIdx?] at hfb
   cases hi:es.findIdx? fun e=>knd.is k e.key with
   |some i=>
    refine wpAny_bind (wpAny_dictEntries (s:={s with toks:=s.toks+1}) ho hdat ?_)
    cases he:es[i]? with
    |none=>
     exfalso;have:=Array.findIdx?_eq_some_iff_findIdx_eq.mp hi;have hlt:i < es.size:=this.1;rw[ew5 hlt] at he
     exact nomatch he
    |some e=>
     refine wpAny_bind (wpAny_rule (wpAny_pure (wpAny_pure ⟨e.val,rfl,h1 e.val ?_⟩)));rw[hi] at hfb;rw[<-hfb];show Option.map _ es[i]? =_;rw[he];rfl
   |none=>
    have hnot:k∉kvs.map (·.1):=not_mem_of_findIdx_none (hidx▸hi)
    have hnone:valueAt kvs k=none:=by rw[hi] at hfb;exact hfb.symm
    refine wpAny_bind (wpAny_rule (wpAny_bind (wpAny_updateDictKeys (hz:=hes) (s:={s with toks:=s.toks+1}) ho hdat (wpAny_pure (wpAny_pure ⟨dflt,rfl,h2 hnone _ ⟨_,_,ep+1,Heap.get?_update_self _ ho (Obj.isFreed_of_dict (Obj.data_mapDictKeys hdat _)),
      hc.mapDictKeys _,Obj.data_mapDictKeys hdat _,hk.push hkey _,?_,?_⟩ (Heap.SameBut.update ..)⟩)))))
    · have:=hp.append hkey (knd.hash k) dflt;obtain ⟨l⟩:=es
      simpa using this
    · rw[ec4,eh0];refine ⟨hn,by simp,?_⟩;intro a ha b hb;simp only[eg6,ep5,ec9] at hb;subst hb
      exact fun e=>hnot (e▸ha)
def cf3:V->List V->Hp->VK->Prop:=fun x vs H Q=>∃(d:Addr) (kvs:List (w6×V)) (k:w6) (y:V),x= .ref d/\vs=[kV k,y]/\H d=some (.dK kvs)/\kvs.length < sizeLine/\
 (∀v,D0 kvs k=some v->Q v H)/\(D0 kvs k=none->Q y (c9 H d (.dK (kvs++[(k,y)]))))
theorem cq9:MtM X "dict.setdefault" cf3:=by
 intro pins s σ H x vs v us Q I rx rv h;obtain ⟨d,kvs,k,y,rfl,rfl,hH,hlen,q1,q2⟩:=h;cases rx
 cases rv with
 |cons rk rr=>
  cases rr with
  |cons ry rn=>
   cases rn;obtain ⟨z,hd,ws,rel,dd⟩:=dc5 I.hok hH
   refine call_meetsIn PySem.F.slot_dict_setdefault dd.typeIs PySem.F.entry_dict_setdefault (PySem.F.args_dict_setdefault_3 _ _ _) (am3 (E6 X.prog X.w) d (aq7 rk) hd _)
     ⟨ws,dd,by rw[<-rel.length];exact z,fun u hu=> ?_,fun hn h' dd' hs=> ?_⟩
   · have:=rel.val k;rw[hu] at this
     cases hv:D0 kvs k with
     |none=>rw[hv] at this;cases this
     |some v=>
      rw[hv] at this;exact ⟨v,H,I.tok _,this,q1 v hv⟩
   · have hvn:D0 kvs k=none:=by
       have:=rel.val k;rw[hn] at this
       cases hv:D0 kvs k with
       |none=>rfl
       |some v=>rw[hv] at this;cases this
     have he:∃q,h'.get? d=some q:=let ⟨q,_,_,hq,_⟩:=dd';⟨q,hq⟩;have rel':=rel.put k ry
     have hany:¬(ws.any fun kv=>decide (kv.1=k))=true:=by
       rw[et9];rintro ⟨kv,hkv,hek⟩;unfold valueAt at hn
       cases hf:ws.find? (fun kv=>decide (kv.1=k)) with
       |none=>exact List.find?_eq_none.mp hf kv hkv hek
       |some y=>rw[hf] at hn;cases hn
     rw[aq6 y hvn,stored,if_neg hany] at rel';exact ⟨y,_,ba8 I (by rw[hH];exact True.intro) hs he (co7 (by rw[ec6];exact hlen) hd rel' dd'),ry,q2 hvn⟩
theorem cr0 {o e f:Expr}{to:TE}{t:TA}{apos pos:Pos}(ho:PE X o to)(ha:PA X [e,f] t)
   (hbase:attributeBase o "setdefault" X.env (eval o X.env)=eval o X.env:=by rfl)
   (hfew:((backTo pos (starEach [e,f] X.env)).all (fun x=> !x.1)&&(backToKw pos (keywordEach [] X.env)).all (fun x=>x.1.isSome)
     &&decide ([e,f].length+([]:List Keyword).length+(if ([]:List Keyword).isEmpty then 0 else 1) < 30))=true:=by rfl)
   (hline:(apos.endLine==pos.line)=true:=by rfl) (hs:starEach [e,f] X.env=(false,eval e X.env)::starEach [f] X.env:=by rfl) (hplain:(backTo pos (starEach [f] X.env)).any (·.1)=false:=by rfl):
   PE X (.Call (.Attribute o "setdefault" apos) [e,f] [] pos) (tBM X.K "dict" cf3 to t):=
 ba7 PySem.F.plainAttrs_dict PySem.F.slot_dict_setdefault PySem.F.type_dict_setdefault cq9 ho ha hbase hfew hline hs hplain
end
end L2
namespace Mth
def w9 (f:Nat->Nat):List Nat->Nat
 |[]=>1
 |x::xs=>f x*w9 f xs
theorem ax9 (f:Nat->Nat):∀xs ys,w9 f (xs++ys)=w9 f xs*w9 f ys
 |[],ys=>by rw[List.nil_append];exact (ev8 _).symm
 |x::xs,ys=>by
  show f x*w9 f (xs++ys)=f x*w9 f xs*w9 f ys;rw[ax9 f xs ys,ej2]
theorem as3 (f:Nat->Nat)(xs:List Nat)(x:Nat):w9 f (xs++[x])=w9 f xs*f x:=by
 rw[ax9];show w9 f xs*(f x*1)=_;rw[ek7]
theorem ck3 {f:Nat->Nat}{xs ys:List Nat}(h:xs.Perm ys):w9 f xs=w9 f ys:=by
 induction h with
 |nil=>rfl
 |cons x _ ih=>show f x*w9 f _=f x*w9 f _;rw[ih]
 |swap x y l=>show f y*(f x*w9 f l)=f x*(f y*w9 f l);rw[<-ej2,ei2 (f y),ej2]
 |trans _ _ i1 i2=>rw[i1,i2]
theorem bi1 {f:Nat->Nat}:∀{us:List Nat},(∀u∈us,f u=1)->w9 f us=1
 |[],_=>rfl
 |u::us,h=>by
  show f u*w9 f us=1;rw[h u ec5,bi1 fun x hx=>h x (ec7 _ hx)]
theorem bq1 {f:Nat->Nat}:∀{ks us:List Nat},ks.Nodup->us.Nodup->(∀k∈ks,k∈us)->(∀u∈us,u∉ks->f u=1)->w9 f ks=w9 f us
 |[],us,_,_,_,h=>(bi1 fun u hu=>h u hu (by simp)).symm
 |k::ks,us,nk,nu,sub,h=>by
  obtain ⟨nk1,nk2⟩:=eg5.mp nk;have hk:k∈us:=sub k ec5;rw[ck3 (List.perm_cons_erase hk)];show f k*w9 f ks=f k*w9 f (us.erase k)
  have ih:w9 f ks=w9 f (us.erase k):=by
    refine bq1 nk2 (nu.erase k) (fun x hx=> ?_) fun u hu hn=> ?_
    · have hxk:x≠k:=fun e=>nk1 (by rw[<-e];exact hx)
      exact (List.mem_erase_of_ne hxk).mpr (sub x (ec7 _ hx))
    · obtain ⟨h1,h2⟩:=(List.Nodup.mem_erase_iff nu).mp hu
      refine h u h2 fun z=> ?_
      rcases ee0.mp z with e|e
      · exact h1 e
      · exact hn e
  rw[ih]
def t9 (rs:List (List Int))(l:Nat):Nat:=rs.countP fun r=>decide (r.length=l)
theorem bq2 (rs:List (List Int))(r:List Int)(l:Nat):t9 (rs++[r]) l=t9 rs l+if r.length=l then 1 else 0:=by
 unfold t9;rw[es6,List.countP_singleton]
 by_cases h:r.length=l<;>simp [h]
theorem bi2 {g:Int->Nat}{l:Nat}:∀{rs:List (List Int)},(∀r∈rs,∀x∈r,g x=r.length)->(rs.flatten.countP fun x=>decide (g x=l))=l*t9 rs l
 |[],_=>by simp [t9]
 |r::rs,h=>by
  have ih:=bi2 (l:=l) (rs:=rs) fun q hq=>h q (ec7 _ hq)
  rw[eg7,es6,ih];unfold t9;rw[ek4];have hr:=h r ec5
  by_cases e:r.length=l
  · have:(r.countP fun x=>decide (g x=l))=r.length:=List.countP_eq_length.mpr fun x hx=>by rw[hr x hx];exact decide_eq_true e
    rw[this,e];simp only[decide_true,if_true];rw[es0,ek7,ej4]
  · have:(r.countP fun x=>decide (g x=l))=0:=ek5.mpr fun x hx=>by rw[hr x hx];simpa using e
    rw[this];simp [e]
theorem df1 {p:List Int}(t:x8 p){rs:List (List Int)}(up:G0 p p.length rs):∀r∈rs,∀x∈r,X2 p x=r.length:=by
 intro r hr x hx;obtain ⟨y,L,hy,pr,er,_⟩:=up.ring r hr;subst er;obtain ⟨j,hj,rfl⟩:=G6.mp hx;rw[q9];exact ai6 (pr.shift t hy j)
theorem cf4 {rs:List (List Int)}{l:Nat}(h:t9 rs l≠0):∃r∈rs,r.length=l:=by
 unfold t9 at h;obtain ⟨r,hr,e⟩:=List.countP_pos_iff.mp (Nat.pos_of_ne_zero h);exact ⟨r,hr,of_decide_eq_true e⟩
end Mth
namespace Mth
structure bw9 (l m d:Nat):Prop where
 parts:d∣m
 rest:ef6 l (m/d)=1
 least:∀e,e∣m->ef6 l (m/e)=1->d∣e
theorem bw9.pos {l m d:Nat}(x:bw9 l m d)(hm:0 < m):0 < d:=by
 rcases eo6 d with z|z
 · have:=x.parts;rw[z] at this;have:=Nat.zero_dvd.mp this;omega
 · exact z
structure am4 (l m d:Nat):Prop where
 pos:0 < d
 parts:d∣m
 least:∀e,e∣m->ef6 l (m/e)=1->d∣e
theorem am4.start (l m:Nat):am4 l m 1:=⟨by decide,Nat.one_dvd m,fun e _ _=>Nat.one_dvd e⟩
theorem am4.step {l m d:Nat}(hm:0 < m)(u:am4 l m d):am4 l m (d*ef6 l (m/d)):=by
 obtain ⟨k,rfl⟩:=u.parts;have dp:=u.pos;rw[ek8 k dp]
 have kp:0 < k:=Nat.pos_of_mul_pos_left hm|>fun h=>by
   rcases eo6 k with z|z
   · rw[z,ek3] at hm;omega
   · exact z
 refine ⟨ej8 dp (ew9 _ kp),Nat.mul_dvd_mul_left d (eo8 l k),fun e he hr=> ?_⟩;obtain ⟨f,rfl⟩:=u.least e he hr;have hfk:f∣k:=ev1 dp he;obtain ⟨g,rfl⟩:=hfk
 have fp:0 < f:=by
   rcases eo6 f with z|z
   · rw[z,eh4] at kp;omega
   · exact z
 have e1:d*(f*g)/(d*f)=g:=by
   rw[<-ej2,ek8 g (ej8 dp fp)]
 rw[e1] at hr;refine Nat.mul_dvd_mul_left d ?_
 have c:ev9 (ef6 l (f*g)) g:=by
   have:ev9 l g:=hr;exact ev9.coprime_dvd_left (ex4 l (f*g)) this
 exact c.dvd_of_dvd_mul_right (eo8 l (f*g))
theorem am4.done {l m d:Nat}(u:am4 l m d)(h:ef6 l (m/d)=1):bw9 l m d:=⟨u.parts,h,u.least⟩
theorem am4.more {l m d:Nat}(hm:0 < m)(u:am4 l m d)(h:ef6 l (m/d)≠1):d < d*ef6 l (m/d)/\d*ef6 l (m/d)<=m:=by
 have kp:0 < m/d:=Nat.div_pos (ew6 hm u.parts) u.pos;have gp:0 < ef6 l (m/d):=ew9 _ kp;have dp:=u.pos;refine ⟨?_,ew6 hm (u.step hm).parts⟩
 have:2<=ef6 l (m/d):=by omega
 calc d < d*2:=by omega
   _<=d*ef6 l (m/d):=eu9 d this
def N6 (d l k lane step:Nat):Nat:=lane+d*((step*k)%l)
theorem bx0 {d l x lane:Nat}(hl:lane < d)(h:0 < l):(lane+d*x)%(d*l)=lane+d*(x%l):=by
 have e:lane+d*x=(lane+d*(x%l))+(d*l)*(x/l):=by
   have:=Nat.mod_add_div x l
   calc lane+d*x=lane+d*(x%l+l*(x/l)):=by rw[this]
     _=(lane+d*(x%l))+(d*l)*(x/l):=by rw[es0,<-ej2,er5]
 rw[e,er6];refine ef1 ?_;have hx:x%l+1<=l:=ei3 _ h
 calc lane+d*(x%l) < d+d*(x%l):=by omega
   _=d*(x%l+1):=by rw[es0,ek7,ej4]
   _<=d*l:=eu9 d hx
theorem bl5 {d l k lane step:Nat}(hl:lane < d)(h:0 < l):(lane+step*(d*k))%(d*l)=N6 d l k lane step:=by
 have e:step*(d*k)=d*(step*k):=by rw[<-ej2,ei2 step d,ej2]
 rw[e,bx0 hl h];rfl
theorem ao7 {d l k lane step:Nat}(hl:lane < d)(h:0 < l):N6 d l k lane step < d*l:=by
 rw[<-bl5 (k:=k) hl h];exact ei3 _ (ej8 (by omega) h)
theorem cy5 {d l k a b x y:Nat}(ha:a < d)(hb:b < d)(hx:x < l)(hy:y < l)(c:ef6 l k=1)(h:N6 d l k a x=N6 d l k b y):a=b/\x=y:=by
 unfold N6 at h
 have dp:0 < d:=by omega
 have h1:a=b:=by
   have e1:(a+d*((x*k)%l))%d=a:=by rw[er6];exact ef1 ha
   have e2:(b+d*((y*k)%l))%d=b:=by rw[er6];exact ef1 hb
   rw[<-e1,<-e2,h]
 subst h1;have h2:(x*k)%l=(y*k)%l:=en0 dp (by omega);refine ⟨rfl,?_⟩
 have key:∀u v,u<=v->v < l->(u*k)%l=(v*k)%l->u=v:=fun u v huv hv e=>by
   have d1:l∣v*k - u*k:=Nat.dvd_of_mod_eq_zero (Nat.sub_mod_eq_zero_of_mod_eq e.symm);rw[<-Nat.sub_mul] at d1;have d2:l∣v - u:=ev9.dvd_of_dvd_mul_right c d1
   rcases eo6 (v - u) with z|z
   · omega
   · have:=ew6 z d2;omega
 rcases Nat.le_total x y with z|z
 · exact key x y z hy h2
 · exact (key y x z hx h2.symm).symm
theorem cr1 {d l k lane step:Nat}(hl:lane < d)(h:0 < l):(N6 d l k lane step+d*k)%(d*l)=N6 d l k lane ((step+1)%l):=by
 have e1:N6 d l k lane step+d*k=lane+d*((step*k)%l+k):=by
   unfold N6;rw[es0,er5]
 rw[e1,bx0 hl h];unfold N6
 congr 2
 rw[ey6,<-em8,Nat.mul_mod ((step+1)%l),Nat.mod_mod,<-Nat.mul_mod]
end Mth
namespace Mth
theorem bd2 {r:List Int}(h1:∀x,In r x->In r (nx r x))(h2:∀x,In r x->∃L,0 < L/\it r L x=x):x8 r:=by
 refine bq0 (fun x a b=>h1 x ⟨a,b⟩) fun x y x0 x1 y0 y1 e=> ?_
 obtain ⟨L,L0,hL⟩:=h2 x ⟨x0,x1⟩;obtain ⟨M,M0,hM⟩:=h2 y ⟨y0,y1⟩;have a1:=ax4 hL M;have a2:=ax4 hM L;rw[ei2] at a2;have hp:0 < L*M:=ej8 L0 M0;obtain ⟨N,hN⟩:∃N,L*M=N+1:=⟨L*M - 1,by omega⟩;rw[hN,de6] at a1 a2;rw[<-a1,<-a2,e]
structure O5 (r J:List Int):Prop where
 ne:J≠[]
 nd:J.Nodup
 lo:∀x∈J,0<=x
 on:∀j,j < J.length->C9 r (J.getD j 0)=some (J.getD ((j+1)%J.length) 0)
theorem O5.in_ {r J:List Int}(h:O5 r J){j:Nat}(hj:j < J.length):In r (J.getD j 0):=by
 have:=h.on j hj;unfold C9 at this;have h1:=(eb9.mp this).1;have h0:=h.lo (J.getD j 0) (by rw[E9 hj];exact ef2 hj);exact ⟨h0,by omega⟩
theorem O5.nx {r J:List Int}(h:O5 r J){j:Nat}(hj:j < J.length):nx r (J.getD j 0)=J.getD ((j+1)%J.length) 0:=by
 have e:=ao6 (h.in_ hj);rw[h.on j hj] at e;exact (Option.some.inj e).symm
theorem O5.it {r J:List Int}(h:O5 r J){j:Nat}(hj:j < J.length):∀i,it r i (J.getD j 0)=J.getD ((j+i)%J.length) 0
 |0=>by rw[ej1,ef1 hj];rfl
 |i+1=>by
  have hm:(j+i)%J.length < J.length:=ei3 _ (by omega);show Mth.nx r (Mth.it r i (J.getD j 0))=_;rw[h.it hj i,h.nx hm,ey6,er5]
theorem O5.per {r J:List Int}(h:O5 r J){j:Nat}(hj:j < J.length):K7 r (J.getD j 0) J.length:=by
 refine ⟨by omega,?_,fun i i0 i1 e=> ?_⟩
 · rw[h.it hj,eo9,ef1 hj]
 · rw[h.it hj] at e;have hm:(j+i)%J.length < J.length:=ei3 _ (by omega)
   have hne:(j+i)%J.length≠j:=fun z=>by
     rcases ey2 (j+i) J.length with y|y
     · rw[ef1 y] at z;omega
     · have e2:(j+i)%J.length=j+i - J.length:=by
         rw[Nat.mod_eq_sub_mod y,ef1 (by omega)]
       omega
   exact Q4 h.nd hm hj hne e
def V9 (d l k:Nat):List Int:=(ef4 (d*l)).map fun i=>((N6 d l k (i/l) (i%l):Nat):Int)
theorem ad2 (d l k:Nat):(V9 d l k).length=d*l:=by unfold V9;rw[eb7,ee9]
theorem ba9 {d l i:Nat}(h:i < d*l):i/l < d:=by
 refine Nat.div_lt_of_lt_mul ?_;rw[ei2];exact h
theorem as4 {d l k:Nat}(hl:0 < l)(c:ef6 l k=1):x8 (V9 d l k):=by
 refine ⟨?_,fun x hx=> ?_,fun x hx=> ?_⟩
 · unfold V9;rw[ed5,el4];refine List.Pairwise.imp_of_mem ?_ (ed5.mp (eu0 (n:=d*l)));intro a b ha hb hne e;have ha:=eg0.mp ha;have hb:=eg0.mp hb
   have e':N6 d l k (a/l) (a%l)=N6 d l k (b/l) (b%l):=by omega
   obtain ⟨h1,h2⟩:=cy5 (ba9 ha) (ba9 hb) (ei3 _ hl) (ei3 _ hl) c e';exact hne (by rw[<-eu6 a l,<-eu6 b l,h1,h2])
 · obtain ⟨i,_,rfl⟩:=ed2.mp hx;omega
 · obtain ⟨i,hi,rfl⟩:=ed2.mp hx;rw[ad2];have:=ao7 (k:=k) (step:=i%l) (ba9 (eg0.mp hi)) hl;omega
theorem as5 {l:Nat}(hl:0 < l):∀{Rs:List (List Int)},(∀r∈Rs,r.length=l)->Rs.flatten.length=Rs.length*l/\∀a b,a < Rs.length->b < l->Rs.flatten[a*l+b]? =(Rs.getD a [])[b]?
 |[],_=>⟨by simp,fun a b h=>by simp at h⟩
 |r::Rs,h=>by
  have hr:=h r ec5
  obtain ⟨i1,i2⟩:=as5 hl (Rs:=Rs) fun q hq=>h q (ec7 _ hq)
  refine ⟨by rw[eg7,ec6,i1,hr,eg9,em8,ej4],fun a b ha hb=> ?_⟩;rw[eg7]
  cases a with
  |zero=>
   rw[eh4,ej5,ee4 (by omega)];rfl
  |succ a=>
   rw[em8,ee8 (by omega),hr]
   have e:a*l+l+b - l=a*l+b:=by omega
   rw[e,i2 a b (by simp only[eg9] at ha;omega) hb];rfl
structure K8 (l k:Nat)(Rs:List (List Int))(J:List Int):Prop where
 len:J.length=Rs.length*l
 at_:(V9 Rs.length l k).map (C9 J)=Rs.flatten.map some
theorem K8.perm {l k:Nat}{Rs:List (List Int)}{J:List Int}(hl:0 < l)(c:ef6 l k=1)(h:K8 l k Rs J):J.Perm Rs.flatten:=
 bh8 (as4 hl c) (by rw[ad2];exact h.len) h.at_
theorem K8.get {l k:Nat}{Rs:List (List Int)}{J:List Int}(hl:0 < l)(hr:∀r∈Rs,r.length=l)(h:K8 l k Rs J){a b:Nat}(ha:a < Rs.length)(hb:b < l):J.getD (N6 Rs.length l k a b) 0=(Rs.getD a []).getD b 0:=by
 have hi:a*l+b < Rs.length*l:=by
   calc a*l+b < a*l+l:=by omega
     _=(a+1)*l:=by rw[em8]
     _<=Rs.length*l:=ek0 l ha
 have e:=congrArg (fun z:List (Option Int)=>z[a*l+b]?) h.at_;unfold V9 at e;rw[ec1,ec1,eg8 hi,ec1,(as5 hl hr).2 a b ha hb] at e
 have d1:(a*l+b)/l=a:=by
   rw[ei2,Nat.mul_add_div hl,eu1 hb,ej1]
 have d2:(a*l+b)%l=b:=by
   rw[ei2,ey7,ef1 hb]
 simp only[ep9,d1,d2] at e
 have hra:(Rs.getD a []).length=l:=by
   refine hr _ ?_;rw[ec3,eb8 ha];exact ef2 ha
 rw[eb8 (by omega)] at e;have e:=Option.some.inj e;have hp:=ao7 (k:=k) (step:=b) ha hl;rw[<-h.len] at hp;unfold C9 at e;rw[eg3,eb8 hp] at e;rw[ec3,eb8 hp,ec3,eb8 (show b < (Rs.getD a []).length by omega)]
 simpa using e
def bx1 (p:List Int)(m:Nat)(J:List Int)(x:Int):Prop:=
 ∃(l k:Nat) (Rs:List (List Int)) (a b:Nat) (y:Int),0 < l/\m=Rs.length*k/\ef6 l k=1/\(∀r∈Rs,r.length=l)/\K8 l k Rs J/\a < Rs.length/\b < l/\In p y/\K7 p y l/\Rs.getD a []=l6 p y l/\x=it p b y
theorem df2 {p r:List Int}{m:Nat}{qs:List (List Int)}(tp:x8 p)(hlen:r.length=p.length)(hq:∀J∈qs,O5 r J)(hx:∀x,In p x->∃J∈qs,bx1 p m J x):x8 r/\J3 r (m:Int) p:=by
 have at_:∀x,In p x->∃J∈qs,∃j,j < J.length/\x=J.getD j 0/\J.getD ((j+m)%J.length) 0=nx p x:=fun x hxi=>by
   obtain ⟨J,hJ,l,k,Rs,a,b,y,l0,rfl,c,hr,hj,ha,hb,hy,py,er,rfl⟩:=hx x hxi;refine ⟨J,hJ,N6 Rs.length l k a b,by rw[hj.len];exact ao7 ha l0,?_,?_⟩
   · rw[hj.get l0 hr ha hb,er,X1 hb]
   · rw[hj.len,cr1 ha l0,hj.get l0 hr ha (ei3 _ l0),er,X1 (ei3 _ l0),ab1 py.back];rfl
 have inr:∀x,In r x↔In p x:=fun x=>by unfold In;rw[hlen]
 have tr:x8 r:=by
   refine bd2 (fun x h=> ?_) fun x h=> ?_
   · obtain ⟨J,hJ,j,hj,rfl,_⟩:=at_ x ((inr x).mp h);rw[(hq J hJ).nx hj];exact (hq J hJ).in_ (ei3 _ (by omega))
   · obtain ⟨J,hJ,j,hj,rfl,_⟩:=at_ x ((inr x).mp h);have:=(hq J hJ).per hj;exact ⟨_,this.pos,this.back⟩
 refine ⟨tr,dn3 tr hlen.symm fun x h L hL=> ?_⟩;obtain ⟨J,hJ,j,hj,rfl,e⟩:=at_ x ((inr _).mp h);have hp:=(hq J hJ).per hj;have:L=J.length:=hL.uniq hp;subst this;exact ⟨m,by simp,by rw[(hq J hJ).it hj,e]⟩
end Mth
namespace Mth
theorem bx2 {p:List Int}(t:x8 p):∀i,i<=p.length->G0 p i (t8 p i)
 |0,_=>ar9 p
 |i+1,h=>by
  have ih:=bx2 t i (by omega);show G0 p (i+1) (if (i:Int)∈(t8 p i).flatten then t8 p i else t8 p i++[l6 p i (X2 p i)]);have hx:In p (i:Int):=⟨by omega,by omega⟩
  by_cases hi:(i:Int)∈(t8 p i).flatten
  · rw[if_pos hi];exact as0 ih hi
  · rw[if_neg hi];obtain ⟨L,hL⟩:=ax5 t hx;rw[ai6 hL];exact as1 t ih hx hL hi
theorem Z2 {p:List Int}(t:x8 p):G0 p p.length (t8 p p.length):=bx2 t _ (ec0 _)
theorem bi3 {p t:List Int}{k:Int}(tp:x8 p)(h:J3 p k t){x:Int}(hx:In p x){L:Nat}(hL:K7 p x L){m:Nat}(hm:((m:Int) - k)%(L:Int)=0):∀i,it t i x=it p (m*i) x
 |0=>by rw[ek3];rfl
 |i+1=>by
  show nx t (it t i x)=_;rw[bi3 tp h hx hL hm i];obtain ⟨M,hM,e⟩:=cq4 h (P4 tp hx (m*i));have:=(hL.shift tp hx (m*i)).uniq hM;subst this;rw[e m hm,<-J5,ex9,ej4]
theorem df3 {p t:List Int}{k:Int}(tp:x8 p)(h:J3 p k t){x:Int}(hx:In p x){L:Nat}(hL:K7 p x L){m:Nat}(hm:((m:Int) - k)%(L:Int)=0):K7 t x (L/ef6 L m):=by
 have lp:=hL.pos;have gp:0 < ef6 L m:=Nat.gcd_pos_of_pos_left _ lp;obtain ⟨a,ha⟩:=ex4 L m;obtain ⟨b,hb⟩:=eo8 L m;have cp:ev9 (L/ef6 L m) (m/ef6 L m):=ev2 gp;generalize ef6 L m=g at*
 have e1:L/g=a:=by rw[ha,ek8 _ gp]
 have e2:m/g=b:=by rw[hb,ek8 _ gp]
 rw[e1,e2] at cp;rw[e1];refine ⟨?_,?_,fun i i0 i1 e=> ?_⟩
 · rcases eo6 a with z|z
   · rw[z] at ha;omega
   · exact z
 · rw[bi3 tp h hx hL hm,hb,show g*b*a=L*b by rw[ha];ac_rfl];exact ax4 hL.back b
 · rw[bi3 tp h hx hL hm] at e;have d:=cf2 hL e;rw[ha,hb,ej2] at d;have d2:a∣b*i:=ev1 gp d;have d3:a∣i:=cp.dvd_of_dvd_mul_left d2;exact absurd (ew6 i0 d3) (by omega)
theorem ck4 {p:List Int}(t:x8 p)(l:Nat):((L2.Y0 0 p.length).countP fun x=>decide (X2 p x=l))=l*t9 (t8 p p.length) l:=by
 rw[<-bi2 (df1 t (Z2 t)),(df0 t (Z2 t)).countP_eq]
end Mth
namespace Mth
def K9 (rs:List (List Int))(l:Nat):List (List Int):=rs.filter fun r=>decide (r.length=l)
theorem bb0 (rs:List (List Int))(l:Nat):(K9 rs l).length=t9 rs l:=by unfold K9 t9;rw[ev0]
theorem K8.uniq {l k:Nat}{Rs:List (List Int)}{J J':List Int}(hl:0 < l)(c:ef6 l k=1)(h:K8 l k Rs J)(h':K8 l k Rs J'):J=J':=by
 have e:=h.at_.trans h'.at_.symm
 refine eg4 fun i=> ?_
 by_cases hi:i < Rs.length*l
 · have ip:=as4 (d:=Rs.length) hl c;have hm:(i:Int)∈V9 Rs.length l k:=ip.perm.mem_iff.mpr (R0.mpr ⟨by omega,by rw[ad2];omega⟩);obtain ⟨n,hn⟩:=ef8.mp hm;have e2:=congrArg (fun z:List (Option Int)=>z[n]?) e;simp only[ec1,hn,ep9] at e2;have e3:=Option.some.inj e2;unfold C9 at e3;rw[eg3] at e3;exact e3
 · rw[ed1 (by rw[h.len];omega),ed1 (by rw[h'.len];omega)]
end Mth
namespace Mth
theorem dn5 {n c:Int}(hn:1<=n)(hc:0<=c):∃mx,(if (if n < c then n else c) > 1 then (if n < c then n else c) else (1:Int))=mx/\1<=mx/\mx<=n:=by
 refine ⟨_,rfl,?_⟩
 split<;>split at* <;>omega
end Mth
namespace L2
open PySem PySem.Spec PyProof.Rows
def KI (kvs:List (w6×V))(ns:List Int):Prop:=kvs.map (·.1)=ns.map Sum.inl
theorem bi4:∀{kvs:List (w6×V)} {ns:List Int},KI kvs ns->∀k:Int,k∈ns↔∃v,D0 kvs (Sum.inl k:w6)=some v
 |[],[],_,k=>⟨fun h=>by simp at h,fun ⟨v,h⟩=>by cases h⟩
 |[],n::ns,h,_=>by unfold KI at h;simp at h
 |p::kvs,[],h,_=>by unfold KI at h;simp at h
 |p::kvs,n::ns,h,k=>by
  unfold KI at h;rw[eg6,eg6] at h
  injection h with h1 h2
  by_cases e:n=k
  · have:p.1=(Sum.inl k:w6):=by rw[h1,e]
    rw[K6 this];exact ⟨fun _=>⟨_,rfl⟩,fun _=>by rw[e];exact ec5⟩
  · have:¬p.1=(Sum.inl k:w6):=fun z=>e (by rw[h1] at z;exact Sum.inl.inj z)
    rw[K3 this];constructor
    · intro hm
      rcases ee0.mp hm with z|z
      · exact absurd z.symm e
      · exact (bi4 (show KI kvs ns from h2) k).mp z
    · intro hv;exact ec7 _ ((bi4 (show KI kvs ns from h2) k).mpr hv)
theorem bl6 {kvs:List (w6×V)}{ns:List Int}(h:KI kvs ns){k:Int}(hk:k∉ns):D0 kvs (Sum.inl k:w6)=none:=by
 cases e:D0 kvs (Sum.inl k:w6) with
 |none=>rfl
 |some v=>exact absurd ((bi4 h k).mpr ⟨v,e⟩) hk
theorem dn6 {kvs:List (w6×V)}{ns:List Int}(h:KI kvs ns){k:Int}(hk:k∉ns)(v:V):KI (R4 kvs (Sum.inl k:w6) v) (ns++[k]):=by
 rw[aq6 v (bl6 h hk)];unfold KI at*;rw[ec4,ec4,h];rfl
theorem dn7 {kvs:List (w6×V)}{ns:List Int}(h:KI kvs ns){k:Int}(hk:k∈ns)(v:V):KI (R4 kvs (Sum.inl k:w6) v) ns:=by
 obtain ⟨x,hx⟩:=(bi4 h k).mp hk;unfold R4;rw[ac9,hx,if_pos (show (some x).isSome=true from rfl)];unfold KI at*;rw[<-h,eh3]
 refine eh8 fun p _=> ?_
 show (if p.1=(Sum.inl k:w6) then (p.1,v) else p).1=p.1
 split<;>rfl
end L2
namespace L2
open PySem PySem.Spec PyProof.Rows
structure XPS (X:Cx)(st:Stmt)(t:TS):Prop where
 h:PS X st t
structure dn8 (X:Cx)(st:List Stmt)(t:TS):Prop where
 h:PSs X st t
section
variable {X:Cx} {st:Stmt} {rest:List Stmt} {t u:TS}
theorem df4 (h1:XPS X st t)(h2:PSs X rest u):dn8 X (st::rest) (n5 t u):=⟨c7 h1.h h2⟩
theorem dn9 (h1:PS X st t)(h2:dn8 X rest u):PSs X (st::rest) (n5 t u):=c7 h1 h2.h
end
end L2
namespace L2
open PySem PySem.Spec PyProof.Rows
theorem K5.hide {P:Program}{w:World}{H:Hp}{h:Heap}{as:List Addr}(x:K5 P w H h)(hn:∀b∈as,H b=none):K5 P w H (PySem.W.hideAll h as):=fun a o e=>
 (x a o e).stay (fun b u hb q=>PySem.W.hideAll_get _ q fun hm=>by
   have:=hn b hm
   rcases hb with rfl|hb
   · rw[e] at this;cases this
   · rw[hb] at this;cases this) (fun _ q=>q) fun _ _ q=>q
def CX1 (P:Program)(w:World):CXT:=fun outer H s E e s'=>
 ∃(a t C:Addr) (vs:List Value) (B:Heap) (H':Hp),e= .ref a/\s'.os=s.os/\AllBare s'.gens/\Un (J8 outer) [] H H' s.heap s'.heap/\K5 P w H' B/\
  (∀b o,s.heap.get? b=some o->H b=none->b∉J8 outer->B.get? b=some o)/\(∀b o,s.heap.get? b=some o->b∉J8 outer->∃o',B.get? b=some o')/\
  Heap.FlyingW B outer a (.ref C) (.ref t) s'.heap/\s'.heap.TupAt t vs/\B.get? t=none/\E (.ref C) none H'
theorem bx3 {fs:List Addr}{H0 H1:Hp}{h0 h1 h2 B:Heap}(u:Un fs [] H0 H1 h0 h1)(kb:∀b o,h0.get? b=some o->H0 b=none->b∉fs->B.get? b=some o)(tb:∀b o,h0.get? b=some o->b∉fs->∃o',B.get? b=some o')
   (st:B.StaysIn h2) (up:h1.UpToSlots h2) (fr:∀b∈fs,∀o,h1.get? b=some o->∀vs,o.data≠.fields vs):Un fs [] H0 H1 h0 h2 where
 keep:=fun b o q n hb _=>st b o (kb b o q n hb)
 slot:=fun b o q n hb hx=>by
   obtain ⟨sl,e⟩:=u.slot b o q n hb hx;obtain ⟨sl2,e2⟩:=up b _ e (fr b hb _ e);exact ⟨sl2,e2⟩
 free:=u.free
 there:=fun b o q hx=>by
   by_cases hb:b∈fs
   · obtain ⟨o',e⟩:=u.there b o q hx;obtain ⟨sl,e2⟩:=up b o' e (fr b hb _ e);exact ⟨_,e2⟩
   · obtain ⟨o',e⟩:=tb b o q hb;exact ⟨o',st b o' e⟩
 tups:=u.tups
 frzs:=u.frzs
 tbls:=u.tbls
def cr2 (X:Cx)(E:XK):Prop:=∀(pins:List (Addr×Obj)) (σ:St) (H:Hp) (s:Shared) (h':Heap) (e C:Addr) (vs:List Value),i4 X pins σ H s->Heap.MadeExcOf s.heap h' e (.ref C) vs->E (.ref C) none H->X.xe (.ref e) {s with heap:=h'}
theorem bx4 {X:Cx}{pins:List (Addr×Obj)}{σ:St}{H:Hp}{s:Shared}(I:i4 X pins σ H s):∀b∈J8 X.stack,∀o,s.heap.get? b=some o->∀vs,o.data≠.fields vs:=fun b hb o ho=>by
 obtain ⟨_,o',ho',hn⟩:=I.stack.mem hb;rw[ho] at ho';cases ho';exact hn
section
variable {P:Program} {w:World} {K:PySem.W.Frag} {mg:Str->Option Value} {base:Heap} {N:List Str} {qual:Str} {scope:Scope} {f:Addr} {cd:Value} {A:Around} {outer:List Env} {s₀:Shared} {H₀:Hp} {E E':XK}
theorem ae9 {pins:List (Addr×Obj)}{σ:St}{H:Hp}{s:Shared}(I:i4 (y7 (CX1 P w) P w K mg base N qual scope f cd A outer s₀ H₀ E) pins σ H s){b:Addr}{o:Obj}(h:s₀.heap.get? b=some o)(hb:b∉J8 outer):
   b∉J8 (envOfC qual scope s₀.heap.objs.size f cd::outer):=fun hm=>by
 unfold J8 at hm hb;rw[em5] at hm;have hf:(envOfC qual scope s₀.heap.objs.size f cd).frame=some s₀.heap.objs.size:=rfl;rw[hf] at hm
 rcases ee0.mp hm with z|z
 · have:=Heap.lt_size h;rw[z] at this;exact absurd this (em2 _)
 · exact hb z
theorem cr3:cr2 (y7 (CX1 P w) P w K mg base N qual scope f cd A outer s₀ H₀ E) E:=by
 intro pins σ H s h' e C vs I hx hE;show wpAny (model P w) _ (leaving _ (.ref e)) _ _ _
 have hin:∀env∈(envOfC qual scope s₀.heap.objs.size f cd::outer),∀b,env.frame=some b->b∈J8 (envOfC qual scope s₀.heap.objs.size f cd::outer):=fun env he b hb=>es5.mpr ⟨env,he,hb⟩
 have hst:s.heap.FunFrames base (envOfC qual scope s₀.heap.objs.size f cd::outer):=I.stack;have hsf:∀b∈J8 (envOfC qual scope s₀.heap.objs.size f cd::outer),H b=none:=I.stkFree;have hub:Un (J8 outer) [] H₀ H s₀.heap s.heap:=I.base
 refine wpAny_leaves_madeW (base:=PySem.W.hideAll s.heap (J8 (envOfC qual scope s₀.heap.objs.size f cd::outer))) (h:=s.heap) I.ok.frames rfl (fun b o q=>PySem.W.of_hideAll _ q) (PySem.W.funFrames_hide hst hin) hx fun h2 t fl tup tn up=> ?_
 have up':s.heap.UpToSlots h2:=(Heap.UpToSlots.of_keeps hx.keeps).trans up
 have kb:∀b o,s₀.heap.get? b=some o->H₀ b=none->b∉J8 outer->(PySem.W.hideAll s.heap (J8 (envOfC qual scope s₀.heap.objs.size f cd::outer))).get? b=some o:=fun b o q n hb=>
   PySem.W.hideAll_get _ (hub.keep b o q n hb (by simp)) (ae9 I q hb)
 have tb:∀b o,s₀.heap.get? b=some o->b∉J8 outer->∃o',(PySem.W.hideAll s.heap (J8 (envOfC qual scope s₀.heap.objs.size f cd::outer))).get? b=some o':=fun b o q hb=>by
   obtain ⟨o',e'⟩:=hub.there b o q (by simp);exact ⟨o',PySem.W.hideAll_get _ e' (ae9 I q hb)⟩
 refine ⟨e,t,C,vs,_,H,rfl,I.os,I.bare,bx3 hub kb tb fl.1 up' (fun b hb o ho=> ?_),I.hok.hide hsf,kb,tb,fl,tup,tn,hE⟩;exact bx4 I b (by show b∈J8 (envOfC qual scope s₀.heap.objs.size f cd::outer);unfold J8 at hb ⊢;rw[em5];exact ec7 _ hb) o ho
theorem cr4 (imp:∀c d H,E c d H->E' c d H):aw5 (CX1 P w) (y7 (CX1 P w) P w K mg base N qual scope f cd A outer s₀ H₀ E') E:=by
 intro pins σ H s e s' I h;obtain ⟨a,t,C,vs,B,H',rfl,os,bare,un,hok,kb,tb,fl,tup,tn,hE⟩:=h;show wpAny (model P w) _ (leaving _ (.ref a)) _ _ _;have hub:Un (J8 outer) [] H₀ H s₀.heap s.heap:=I.base;have un':Un (J8 (envOfC qual scope s₀.heap.objs.size f cd::outer)) [] H H' s.heap s'.heap:=un
 have sub:∀b,b∈J8 outer->b∈J8 (envOfC qual scope s₀.heap.objs.size f cd::outer):=fun b hb=>by
   unfold J8 at hb ⊢;rw[em5];exact ec7 _ hb
 refine wpAny_leaves_onW (L:=s₀.heap.objs.size) I.ok.frames rfl fl fun h2 fl2 up=> ?_
 have kb':∀b o,s₀.heap.get? b=some o->H₀ b=none->b∉J8 outer->B.get? b=some o:=fun b o q n hb=>
   kb b o (hub.keep b o q n hb (by simp)) (hub.free b o q n (by simp)) (ae9 I q hb)
 have tb':∀b o,s₀.heap.get? b=some o->b∉J8 outer->∃o',B.get? b=some o':=fun b o q hb=>by
   obtain ⟨o',e'⟩:=hub.there b o q (by simp);exact tb b o' e' (ae9 I q hb)
 have plain:∀b∈J8 outer,∀o,s'.heap.get? b=some o->∀vs,o.data≠.fields vs:=fun b hb o ho=>by
   obtain ⟨_,o1,ho1,hn⟩:=I.stack.mem (sub b hb);obtain ⟨sl,e1⟩:=un'.slot b o1 ho1 (I.stkFree b (sub b hb)) (sub b hb) (by simp);rw[ho] at e1;cases e1;exact hn
 have unw:Un (J8 outer) [] H₀ H' s₀.heap s'.heap:={
   keep:=fun b o q n hb _=>un'.keep b o (hub.keep b o q n hb (by simp)) (hub.free b o q n (by simp)) (ae9 I q hb) (by simp)
   slot:=fun b o q n hb _=>by
     obtain ⟨sl,e1⟩:=hub.slot b o q n hb (by simp);obtain ⟨sl2,e2⟩:=un'.slot b _ e1 (hub.free b o q n (by simp)) (sub b hb) (by simp);exact ⟨sl2,e2⟩
   free:=fun b o q n _=>by
     obtain ⟨sl,e1⟩:=hub.any q n (by simp);exact un'.free b _ e1 (hub.free b o q n (by simp)) (by simp)
   there:=fun b o q _=>by
     obtain ⟨o',e1⟩:=hub.there b o q (by simp);exact un'.there b o' e1 (by simp)
   tups:=fun b xs q=>un'.tups b xs (hub.tups b xs q)
   frzs:=fun b o u q=>un'.frzs b o u (hub.frzs b o u q)
   tbls:=fun b ps q=>by
     obtain ⟨m1,q1⟩:=hub.tbls b ps q;obtain ⟨m2,q2⟩:=un'.tbls b _ q1
     exact ⟨m1++m2,by rw[q2,Array.append_assoc]⟩}
 exact ⟨a,t,C,vs,B,H',rfl,os.trans I.os,bare,bx3 unw kb' tb' fl2.1 up plain,hok,kb',tb',fl2,tup.of_slots up,tn,imp _ _ _ hE⟩
end
theorem df5 {K:PySem.W.Frag}{h:Heap}{C:Addr}{bmB:List Value}{newId:String}(X:K.In h)(q:PySem.W.excIn K C bmB newId=true):
   ∃(bm:List Value) (N:Addr) (nm qn:Str) (bs:List Value) (hdct:Bool) (sn:List Str) (sub:List Value) (ab:Bool) (col:Option Bool) (dd:Option Addr) (k0 k1 k2 k3 k5:Option Value) (mN:Str->Option Value),
    K.lookup C=some (excClassObj nm qn C N bs bm hdct sn sub ab col dd k0 k1 k2 k3 k5 newId)/\h.Ns N mN/\mN "__init__"=none/\OwnTail h bmB bm:=by
 unfold PySem.W.excIn at q
 split at q
 · rename_i dd cd sl look
   split at q
   · rename_i C' bm k0 k1 k2 k3 n k5 hmro hsl;rw[eh9,eh9,eh9,eh9,eh9] at q;obtain ⟨⟨⟨⟨⟨q1,q2⟩,q3⟩,q4⟩,q5⟩,q6⟩:=q;have e1:C'=C:=beq_iff_eq.mp q1;have e2:n=newId:=beq_iff_eq.mp q2;subst e1 e2;obtain ⟨nm,bs,mro,ns,qn,hd,sn,sub,ab,col,del⟩:=cd;have e3:mro= .ref C'::bm:=hmro
     have e4:del=false:=by
       cases del with
       |false=>rfl
       |true=>cases q3
     subst e3 e4
     have e5:sl= #[k0,k1,k2,k3,some (.builtin n),k5]:=by
       apply Array.ext'
       exact hsl
     subst e5;exact ⟨bm,ns,nm,qn,bs,hd,sn,sub,ab,col,dd,k0,k1,k2,k3,k5,_,look,.of_isNs (PySem.W.isNs_of_in X q5),PySem.W.nsMap_none_of_in X q5 (beq_iff_eq.mp q6),PySem.W.tail_of_in X q4⟩
   · cases q
 · cases q
abbrev veB:List Value:=[.type "ValueError",.type "Exception",.type "BaseException",.type "object"]
structure Err (K:PySem.W.Frag)(mg:Str->Option Value)(x:Str)(C:Addr):Prop where
 mg:mg x=some (.ref C)
 ex:PySem.W.excIn K C veB "ValueError.__new__"=true
section
variable {X:Cx}
theorem cy6 {x:Str}{C:Addr}{E:XK}{e:Expr}{te:TE}{np cpos pos:Pos}(R:cr2 X E)(hc:X.calm=true)(c:Err X.K X.mg x C)(he:PE X e te)(hg:Gl X x:=by rfl)
   (hs:starEach [e] X.env=(false,eval e X.env)::starEach [] X.env:=by rfl) (hd:(x==("__debug__":Str))=false:=by decide):
   PS X (.Raise (some (.Call (.Name x np) [e] [] cpos)) none pos) (fun _ σ H=>te σ H fun _ H1=>E (.ref C) none H1):=by
 intro pins s σ H D I h;obtain ⟨bm,N,nm,qn,bs,hdct,sn,sub,ab,col,dd,k0,k1,k2,k3,k5,mN,hC,hN,hni,T⟩:=df5 I.ok.mod.kin c.ex
 refine wpAny_Raise_call_subT (C:=C) (nm:=nm) (q:=qn) (N:=N) (bs:=bs) (bm:=bm) (hdct:=hdct) (sn:=sn) (sub:=sub) (ab:=ab) (col:=col) (dd:=dd) (k0:=k0) (k1:=k1) (k2:=k2) (k3:=k3) (k5:=k5)
   PySem.F.excBase_ValueError (mN:=mN) (T.hasType PySem.F.excBase_ValueError.hasBase) (I.ok.hd hc) (by rw[hs];rfl) hni (an5 I hg c.mg ⟨rfl,?_⟩ hd)
 rw[hs];refine Calls.evalArgs_plain (Calls.spliced_cons (t7 (he pins s σ H _ I h) fun v s1 ⟨x,H1,I1,rx,q⟩=>Calls.spliced_nil ?_));exact ⟨rfl,(by show 1<=sizeLine;decide),I1.kIn _ _ hC,hN.keeps I1.bk,T.keeps I1.bk,fun h' e' hm=>R pins σ H1 s1 h' e' C _ I1 hm q⟩
end
section
variable {P:Program} {w:World} {K:PySem.W.Frag} {mg:Str->Option Value} {base:Heap}
theorem o8.lift {k:Nat}{f:Addr}{fd:FuncData}{ps:List Str}{sp:Sp}{CX:CXT}(F:o8 P w K mg base G2 k f fd ps sp):o8 P w K mg base CX k f fd ps sp:=
 ⟨F.len,fun A outer s H args us vs Q E hr e0 hb hv hs=>codeAny_mono (F.run A outer s H args us vs Q E hr e0 hb hv hs) fun r s' h=>by
   cases r with
   |error e=>exact (show False from h).elim
   |ok v=>cases v<;>exact h⟩
theorem o8.or {k:Nat}{f:Addr}{fd:FuncData}{ps:List Str}{sp sp':Sp}{CX:CXT}(F:o8 P w K mg base CX k f fd ps sp)(G:o8 P w K mg base CX k f fd ps sp'):o8 P w K mg base CX k f fd ps (fun vs H Q E=>sp vs H Q E\/sp' vs H Q E):=
 ⟨fun vs H Q E h=>h.elim (F.len vs H Q E) (G.len vs H Q E),fun A outer s H args us vs Q E hr e0 hb hv hs=>hs.elim (F.run A outer s H args us vs Q E hr e0 hb hv) (G.run A outer s H args us vs Q E hr e0 hb hv)⟩
theorem E7.okx {x qual:Str}{st:Stmt}{f:Addr}{fd:FuncData}{N ps:List Str}{k:Nat}{sp:Sp}(F:E7 K x qual st f fd)(S:m8 N ps (j6 st))(len:∀vs H Q E,sp vs H Q E->vs.length=ps.length)
   (hbody:∀(cdv:Value) (A:Around) (outer:List Env) (s:Shared) (H:Hp) (vs:List V) (Q:VK) (E:XK),n6 k (A.deeper (envOfC qual (j6 st) s.heap.objs.size f cdv))->sp vs H Q E->
     ∃t,PSs (y7 (CX1 P w) P w K mg base N qual (j6 st) f cdv A outer s H E) (Z8 st) t/\t {nx:=fun _ H'=>Q .non H',rt:=Q} (ae2 N vs) H):o8 P w K mg base (CX1 P w) (k+1) f fd ps sp:=by
 obtain ⟨oc,od,kV,doc,pm,an,cdv,ct,osl,rfl,lk,hcd⟩:=F.ex
 exact dc2 lk hcd S len fun A outer s H vs Q E hr hsp=>hbody cdv A outer s H vs Q E hr hsp
def ay0 (P:Program)(w:World)(K:PySem.W.Frag)(mg:Str->Option Value)(base:Heap)(x:Str)(k:Nat)(ps:List Str)(sp:Sp):Prop:=
 ∃(f:Addr) (fd:FuncData),mg x=some (.ref f)/\PySem.W.keepIn K (.ref f)=true/\ag7 K fd ps []/\o8 P w K mg base (CX1 P w) k f fd ps sp
end
section
variable {X:Cx} {x:Str} {k:Nat} {ps:List Str} {sp:Sp} {e:Expr} {es:List Expr} {t:TA} {p pos:Pos} {E:XK}
theorem df6 (c:ay0 X.prog X.w X.K X.mg X.base x k ps sp)(hr:n6 k X.A)(hx:aw5 (CX1 X.prog X.w) X E)(ha:PA X (e::es) t)(hg:Gl X x:=by rfl)(hdb:(x==("__debug__":Str))=false:=by decide)
   (he:starEach (e::es) X.env=(false,eval e X.env)::starEach es X.env:=by rfl) (hpl:(backTo pos (starEach es X.env)).any (·.1)=false:=by rfl):PE X (.Call (.Name x p) (e::es) [] pos) (bh3 sp [] E t):=by
 obtain ⟨f,fd,h1,h2,h3,h4⟩:=c;exact ce6 h4 hr hg h1 h2 h3 .nil hx ha hdb he hpl
end
end L2
namespace L2
open PySem PySem.Spec PyProof.Rows
theorem B0.get {P:Program}{w:World}{H:Hp}{h:Heap}{a:Addr}{o:HO}(x:B0 P w H h a o):∃u,h.get? a=some u:=by
 cases o with
 |lst xs=>obtain ⟨_,_,_,_,e⟩:=x;exact ⟨_,e⟩
 |tup xs=>obtain ⟨_,_,_,ob,e,_⟩:=x;exact ⟨_,e⟩
 |dK kvs=>obtain ⟨_,_,_,_,o,_,_,e,_⟩:=x;exact ⟨_,e⟩
 |dT kvs=>obtain ⟨_,_,_,_,o,_,_,e,_⟩:=x;exact ⟨_,e⟩
 |set S n=>obtain ⟨o,_,_,_,e,_⟩:=x;exact ⟨_,e⟩
 |ins C dx fs=>obtain ⟨_,_,_,e,_⟩:=x;exact ⟨_,e⟩
 |own y=>obtain ⟨_,e⟩:=x;exact ⟨_,e⟩
 |xd fs=>obtain ⟨_,⟨_,_,_,e,_⟩,_⟩:=x;exact ⟨_,e⟩
 |rng lo hi=>obtain ⟨_,_,_,e⟩:=x;exact ⟨_,e⟩
 |frz ob u=>obtain ⟨e,_⟩:=x;exact ⟨_,e⟩
 |tbl ps=>exact ⟨_,show h.get? a=some _ from x⟩
 |met f y=>exact ⟨_,show h.get? a=some _ from x⟩
 |ext φ=>obtain ⟨_,⟨_,e⟩,_⟩:=x;exact ⟨_,e⟩
def bx5 (a C:Addr):HO:= .ext fun h=>∃oe vs,h.get? a=some oe/\oe.cls= .ref C/\oe.data= .fields vs
section
variable {X:Cx} {pins:List (Addr×Obj)} {σ:St} {H H':Hp} {s s':Shared}
theorem df7 {M:Model}{A:Around}{E:Value->Shared->Prop}{i:Nat}{n:Str}{pos:Pos}{Q:Unit->Shared->Prop}(I:i4 X pins σ H s)(hN:X.N.Nodup)(hi:X.N[i]? =some n)(hk:X.env.kindOf n=some .local)
   (h:∀s',i4 X pins (σ.set i none) H s'->Q () s'):wpAny M A (do bindName X.env n .none;unbindBehindTheSuite X.env n pos) Q E s:=by
 obtain ⟨m,hn,hl⟩:=id I.loc
 have hcls:(X.env.scope.kind== .class||(X.env.scope.kind== .module&&X.env.locals !=X.env.globals))=false:=by rw[I.ok.kind];rfl
 have hiσ:i < σ.length:=by rw[I.len];exact (eb9.mp hi).1
 have cne:=I.cne
 refine wpAny_nameGoes_keeps hk hn hcls fun h' v hn' hs=>h _ ?_
 obtain ⟨oL,_,_,hoL,_⟩:=id hn
 have low:∀b o,X.s₀.heap.get? b=some o->b≠X.env.locals:=fun b o e=>eh2 (ef5 (Heap.lt_size e) I.ok.above)
 refine ⟨I.ok,I.os,I.bare,⟨fun b o e n hb hx=> ?_,fun b o e n hb hx=> ?_,I.base.free,fun b o e hx=> ?_,I.base.tups,I.base.frzs,I.base.tbls⟩,⟨_,hn',fun j y v' e1 e2 e3=> ?_⟩,fun y c e=> ?_,I.free,I.freeC,fun p hp=> ?_,fun b ob e=> ?_,by simpa using I.len⟩
 · exact (hs.2 b (low b o e)).trans (I.base.keep b o e n hb hx)
 · obtain ⟨sl,e1⟩:=I.base.slot b o e n hb hx;exact ⟨sl,(hs.2 b (low b o e)).trans e1⟩
 · obtain ⟨o',e1⟩:=I.base.there b o e hx;exact ⟨o',(hs.2 b (low b o e)).trans e1⟩
 · by_cases hj:j=i
   · subst hj;rw[ep7 hiσ] at e2;cases e2
   · rw[er0 (Ne.symm hj)] at e2;obtain ⟨u',r',q⟩:=hl j y v' e1 e2 e3;refine ⟨u',r',?_⟩
     rcases q with ⟨k,e⟩|⟨k,c,e,z⟩
     · refine .inl ⟨k,?_⟩
       have:y≠n:=fun e=>hj (bd8 hN e1 (e▸hi))
       simp [this,e]
     · exact .inr ⟨k,c,e,z.sameBut hs (cne y c e)⟩
 · obtain ⟨w',z⟩:=I.cell y c e;exact ⟨w',z.sameBut hs (cne y c e)⟩
 · obtain ⟨e,n,ne,nf,d⟩:=I.pin p hp;exact ⟨(hs.2 p.1 ne).trans e,n,ne,nf,d⟩
 · refine (I.hok b ob e).stay (fun c w' hc q=>(hs.2 c ?_).trans q) (fun _ q=>q) fun _ _ q=>q
   rintro rfl
   rcases hc with rfl|hc
   · rw[I.free] at e;cases e
   · rw[I.free] at hc;cases hc
abbrev Cx.marked (X:Cx)(a:Addr):Cx:={X with A:=X.A.mark (some (.ref a)),calm:=false,xe:=fun _ _=>False}
theorem i4.mark (I:i4 X pins σ H s)(a:Addr):i4 (X.marked a) pins σ H s:=
 ⟨⟨I.ok.mod,I.ok.kind,I.ok.glob,I.ok.blt,I.ok.above,I.ok.inj,I.ok.has,I.ok.cab,(fun z=>nomatch z),I.ok.frames,I.ok.stk,I.ok.exf,I.ok.bs,I.ok.bsz,I.ok.noex,I.ok.exfs,I.ok.funs,I.ok.frf⟩,I.os,I.bare,I.base,I.loc,I.cell,I.free,I.freeC,I.pin,I.hok,I.len⟩
theorem i4.unmark {a:Addr}(ok:X.Ok)(I:i4 (X.marked a) pins σ H s):i4 X pins σ H s:=
 ⟨ok,I.os,I.bare,I.base,I.loc,I.cell,I.free,I.freeC,I.pin,I.hok,I.len⟩
theorem i4.trackNew {a:Addr}{o:HO}(I:i4 X pins σ H s)(hn:H a=none)(h0:X.s₀.heap.get? a=none)(hL:a≠X.env.locals)(hc:∀x c,X.env.cells.lookup x=some c->c≠a)(hp:∀p∈X.pn++pins,p.1≠a)(new:B0 X.prog X.w (c9 H a o) s.heap a o):
   i4 X pins σ (c9 H a o) s:=by
 refine ⟨I.ok,I.os,I.bare,⟨I.base.keep,I.base.slot,fun b o' e n hx=> ?_,I.base.there,fun b xs e=> ?_,fun b o' u e=> ?_,fun b ps e=> ?_⟩,I.loc,I.cell,?_,fun x c e=> ?_,fun p hq=> ?_,I.hok.track hn new,I.len⟩
 · rw[g6 (fun z=>by rw[z,h0] at e;cases e)];exact I.base.free b o' e n hx
 · have:=I.base.tups b xs e;rw[g6 (g7 this hn)];exact this
 · have:=I.base.frzs b o' u e;rw[g6 (g7 this hn)];exact this
 · obtain ⟨m,this⟩:=I.base.tbls b ps e;exact ⟨m,by rw[g6 (g7 this hn)];exact this⟩
 · rw[g6 (Ne.symm hL)];exact I.free
 · rw[g6 (hc x c e)];exact I.freeC x c e
 · obtain ⟨e,n,ne,nf,d⟩:=I.pin p hq;exact ⟨e,by rw[g6 (hp p hq)];exact n,ne,nf,d⟩
end
def PX (X:Cx)(st:List Stmt)(t:XK->TS):Prop:=
 ∀(pins:List (Addr×Obj)) (s:Shared) (σ:St) (H:Hp) (D:S6) (E:XK) (E1:Value->Shared->Prop),i4 X pins σ H s->
  (∀(H1:Hp) (s1:Shared) (e:Value) (s':Shared),i4 X pins σ H1 s1->CX1 X.prog X.w X.stack H1 s1 E e s'->E1 e s')->t E D σ H->wpAny (model X.prog X.w) X.A (execs st X.env) (SP X pins D) E1 s
section
variable {X:Cx} {x:Str} {k:Nat} {ps:List Str} {sp:Sp} {e:Expr} {es:List Expr} {t:TA} {p pos:Pos}
theorem PA.any (h:PA X.nox es t)(E1:Value->Shared->Prop):PA (X.wish E1) es t:=fun pos pins s σ H Q I hw=>
 wpAny_mono (h pos pins s σ H Q (I.unwish.wish _) hw) (fun _ _ ⟨v,H',I',r,q⟩=>⟨v,H',I'.unwish.wish E1,r,q⟩) fun _ _ z=>False.elim z
theorem df8 {pins:List (Addr×Obj)}{σ:St}{H:Hp}{s:Shared}{Q:VK}{E:XK}{E1:Value->Shared->Prop}(c:ay0 X.prog X.w X.K X.mg X.base x k ps sp)(hr:n6 k X.A)(ha:PA X.nox (e::es) t)(I:i4 X pins σ H s)
   (hx:∀(H1:Hp) (s1:Shared) (e:Value) (s':Shared),i4 X pins σ H1 s1->CX1 X.prog X.w X.stack H1 s1 E e s'->E1 e s') (h:bh3 sp [] E t σ H Q) (hg:Gl X x) (hdb:(x==("__debug__":Str))=false)
   (he:starEach (e::es) X.env=(false,eval e X.env)::starEach es X.env) (hpl:(backTo pos (starEach es X.env)).any (·.1)=false):
   wpAny (model X.prog X.w) X.A (eval (.Call (.Name x p) (e::es) [] pos) X.env) (EP X pins σ Q) E1 s:=by
 obtain ⟨f,fd,h1,h2,h3,h4⟩:=c;have Iw:i4 (X.wish E1) pins σ H s:=I.wish E1;refine wpAny_Call_Name_kw (an5 (E:=E1) I hg h1 ?_ hdb);refine PySem.W.callWith_K (h₀:=X.base) I.ok.mod.kin h2 (t7 ((PA.any ha E1) pos pins s σ H _ Iw h) fun us s1 ⟨vs,H1,I1,r,q⟩=>⟨I1.kIn,?_⟩) he hpl;have I1':i4 X pins σ H1 s1:=I1.unwish
 have r2:l8 (vs++[]) us:=by rw[ee3];exact r
 have hl:(us++[]).length=ps.length:=by rw[ee3,<-r2.length];exact h4.len _ _ _ _ q
 have hb:=h3 s1 us I1'.kIn hl;rw[ee3] at hb;refine wpAny_call (codeAny_mono (h4.run X.A X.stack s1 H1 ⟨us,[]⟩ us (vs++[]) Q E hr I1'.env0 hb r2 q) fun rr s' hq=> ?_)
 cases rr with
 |error e=>exact hx H1 s1 e s' I1' hq
 |ok fl=>
  cases fl with
  |ret u=>exact I1'.after hq
  |next=>exact False.elim hq
  |brk=>exact False.elim hq
  |cont=>exact False.elim hq
theorem do0 {i:Nat}{y:Str}{py sp':Pos}(c:ay0 X.prog X.w X.K X.mg X.base x k ps sp)(hr:n6 k X.A)(hN:X.N.Nodup)(hi:X.N[i]? =some y)(hy:Loc X.env.scope y)(ha:PA X.nox (e::es) t)(hg:Gl X x:=by rfl)(hdb:(x==("__debug__":Str))=false:=by decide)
   (he:starEach (e::es) X.env=(false,eval e X.env)::starEach es X.env:=by rfl) (hpl:(backTo pos (starEach es X.env)).any (·.1)=false:=by rfl)
   (hs:swapsWith (.Call (.Name x p) (e::es) [] pos) (some (.Name y py)) sp'.line X.env=pure false:=by rfl) (hf:X.fn y=true\/X.env.scope.names.lookup y=some .local:=by first|exact .inl rfl|exact .inr rfl|assumption):
   PX X [.Assign [.Name y py] (.Call (.Name x p) (e::es) [] pos) sp'] (fun E D σ H=>bh3 sp [] E t σ H fun v H1=>D.nx (σ.set i (some v)) H1):=by
 intro pins s σ H D E E1 I hx h
 have first:wpAny (model X.prog X.w) X.A (exec (.Assign [.Name y py] (.Call (.Name x p) (e::es) [] pos) sp') X.env) (SP X pins D) E1 s:=
   wpAny_Assign_Name (t7 (df8 c hr ha I hx h hg hdb he hpl) fun v s1 ⟨y',H1,I1,r1,q1⟩=>ac4 I1 hN hi hy r1 (fun s2 I2=>show SP X pins D .next s2 from ⟨_,H1,I2,q1⟩) hf) hs
 refine wpAny_execs_cons (t7 first fun f s1 q=> ?_)
 cases f with
 |next=>exact wpAny_execs_nil q
 |ret v=>exact q
 |brk=>exact q
 |cont=>exact q
end
section
variable {X:Cx}
def df9 (K:PySem.W.Frag)(T:Addr)(i:Nat)(ts:TS)(D:S6)(σ:St):XK:=fun c _ H'=>
 ∃C,c= .ref C/\PySem.W.exmOne K (.ref C) (.ref T)=some true/\∀a,H' a=none->ts {nx:=fun σ' H''=>D.nx (σ'.set i none) H'',rt:=fun _ _=>False} (σ.set i (some (.ref a))) (c9 H' a (bx5 a C))
theorem do1 {body:List Stmt}{x n:Str}{T:Addr}{i:Nat}{np hp pos:Pos}{b₀:Stmt}{suite:List Stmt}{tb:XK->TS}{ts:TS}(hb:PX X body tb)(hm:X.mg x=some (.ref T))(hN:X.N.Nodup)(hi:X.N[i]? =some n)(hk:X.env.kindOf n=some .local)
   (hsu:∀a,PSs (X.marked a) (b₀::suite) ts) (hst:X.stack=X.env::X.outer:=by rfl) (hfr:X.env.frame=some X.env.locals:=by rfl) (hex0:X.ex=[]:=by rfl) (hg:Gl X x:=by rfl) (hdb:(x==("__debug__":Str))=false:=by decide) (hf:X.fn n=true\/X.env.scope.names.lookup n=some .local:=by first|exact .inl rfl|exact .inr rfl|assumption):
   PS X (.Try body [.ExceptHandler (some (.Name x np)) (some n) (b₀::suite) hp] [] [] pos) (fun D σ H=>tb (df9 X.K T i ts D σ) D σ H):=by
 intro pins s σ H D I h;refine wpAny_Try_except (wpAny_mono (hb pins s σ H D _ (fun e s₁=>wpAny (model X.prog X.w) X.A (noteFrame e X.env) (fun _ s₂=>wpAny (model X.prog X.w) X.A (setFlight e none) (fun _ s₃=>wpAny (model X.prog X.w) X.A (handleBy e X.env [.ExceptHandler (some (.Name x np)) (some n) (b₀::suite) hp]) (SP X pins D) X.xe s₃) X.xe s₂) X.xe s₁) I (fun H1 s1 e s' I1 hcx=> ?_) h) (fun f s1 q=> ?_) fun _ _ z=>z)
 · obtain ⟨a,t,C,vs,B,H',rfl,os,bare,un,hok,kb,tb',fl,tup,tn,C',hCe,hex,hts⟩:=hcx;cases hCe;rw[hst] at un fl kb tb'
   have hframes:X.A.frames=some (X.env::X.outer):=by rw[<-hst];exact I1.ok.frames
   have plain:∀b∈J8 (X.env::X.outer),∀o,s'.heap.get? b=some o->∀vs,o.data≠.fields vs:=fun b hb o ho=>by
     obtain ⟨_,o',ho',hn⟩:=fl.2.2.1.mem hb;rw[ho] at ho';cases ho';exact hn
   have notB:B.get? a=none:=fl.2.1
   have notF:a∉J8 (X.env::X.outer):=fun hm=>by
     obtain ⟨oe,ws,he,_,hd,_⟩:=fl.first;exact plain a hm oe he ws hd
   have new1:s1.heap.get? a=none:=by
     cases q:s1.heap.get? a with
     |none=>rfl
     |some o=>
      obtain ⟨o',e'⟩:=tb' a o q notF;rw[notB] at e';cases e'
   have new0:X.s₀.heap.get? a=none:=by
     cases q:X.s₀.heap.get? a with
     |none=>rfl
     |some o=>
      by_cases hx:a∈X.ex
      · rw[hex0] at hx;simp at hx
      · obtain ⟨o',e'⟩:=I1.base.there a o q hx;rw[new1] at e';cases e'
   have hHa:H' a=none:=by
     cases q:H' a with
     |none=>rfl
     |some o=>obtain ⟨u,hu⟩:=(hok a o q).get;rw[notB] at hu;cases hu
   refine wpAny_looks_onW hframes hfr fl fun h₄ held₄ up₄=> ?_
   refine wpAny_landsW held₄ fun h₅ fl₅ up₅=> ?_
   have inv:∀h,B.StaysIn h->s'.heap.UpToSlots h->i4 X pins σ H' {s' with heap:=h}:=fun h st up=>
     I1.call' (ch:=[]) (s':={s' with heap:=h}) os (by rw[hst];exact bx3 un kb tb' st up plain) (hok.kept st) bare (fun b z=>absurd z (by simp))
   have I5:=inv h₅ fl₅.1 (up₄.trans up₅);refine wpAny_handleBy_cons (codeAny_handlers_test (an5 (X:=X.marked a) (E:=_) (I5.mark a) hg hm ?_ hdb)) (by intro q;cases q);obtain ⟨ob,hob,hobc⟩:=fl₅.there;have LT:PySem.W.Looks (model X.prog X.w) h₅ (typeOf (.ref a)) (.ref C):=hobc▸(PySem.W.Looks.ld hob).andThen .now;refine PySem.W.exm_one (M:=model X.prog X.w) (h:=h₅) I5.kIn LT hex _ _ _ _ (fun _ _ q=>q) ?_;refine codeAny_handlers_suite_as ?_
   refine lands_againW fl₅ fun h₆ fl₆ up₆=> ?_
   have I6:=inv h₆ fl₆.1 ((up₄.trans up₅).trans up₆)
   have hLa:a≠X.env.locals:=fun z=>notF (by unfold J8;rw[em5,hfr];rw[z];exact ec5)
   have hca:∀y c,X.env.cells.lookup y=some c->c≠a:=fun y c e z=>by
     obtain ⟨v,o,ho,_⟩:=I1.cell y c e;rw[z,new1] at ho;cases ho
   have hpa:∀q∈X.pn++pins,q.1≠a:=fun q hq z=>by
     obtain ⟨e,_⟩:=I1.pin q hq;rw[z,new1] at e;cases e
   obtain ⟨oe,ws,he6,hc6,hd6,_⟩:=fl₆.first;have I7:i4 X pins σ (c9 H' a (bx5 a C)) {s' with heap:=h₆}:=I6.trackNew hHa new0 hLa hca hpa ⟨⟨oe,ws,he6,hc6,hd6⟩,⟨oe,he6⟩,fun h1 h2 ⟨o1,v1,q1,q2⟩ st=>⟨o1,v1,st o1 q1,q2⟩⟩;have hts':=hts a hHa;refine ac4 I7 hN hi (.inl hk) (show o7 (.ref a) (.ref a) from rfl) (fun s2 I8=> ?_) hf
   refine wpAny_mono (hsu a pins s2 _ _ _ (I8.mark a) hts') (fun f s3 q=> ?_) fun _ _ z=>False.elim z
   cases f with
   |next=>
    obtain ⟨σ',H'',I9,q⟩:=q
    exact df7 (I9.unmark I1.ok) hN hi hk fun s4 I10=>show SP X pins D .next s4 from ⟨_,_,I10,q⟩
   |ret v=>obtain ⟨_,_,_,_,_,q⟩:=q;exact q.elim
   |brk=>obtain ⟨_,_,_,q⟩:=q;exact q.elim
   |cont=>obtain ⟨_,_,_,q⟩:=q;exact q.elim
 · cases f with
   |next=>exact wpAny_execs_nil q
   |ret v=>exact q
   |brk=>exact q
   |cont=>exact q
end
end L2
namespace L2
open PySem PySem.Spec PyProof.Rows PySem.W PySem.Builtin PySem.Builtin.ObjectAttr PySem.Builtin.Getset_descriptor
section
variable {prog:Program} {w:World} {A:Around} {E:Value->Shared->Prop} {s:Shared} {K:PySem.W.Frag} {a C:Addr}
structure bl7 (K:PySem.W.Frag)(C:Addr):Prop where
 ga:PySem.W.findIn K (.ref C) "__getattribute__"=some (some (.builtin "BaseException.__getattribute__"))
 hook:PySem.W.findIn K (.ref C) "__getattr__"=some none
 cls:PySem.W.findIn K (.ref C) "__class__"=some (some (.builtin "object.__class__"))
 get:PySem.W.specialIn K (.builtin "object.__class__") "__get__"=some (some (.builtin "getset_descriptor.__get__"))
 tak:PySem.W.takesIn K (.builtin "object.__class__")=some true
 bex:PySem.W.mroIn K C (.type "BaseException")=some true
 obj:PySem.W.mroIn K C (.type "object")=some true
 isc:∃oc,K.lookup C=some oc/\∃cd,oc.data= .cls cd
theorem bs8 {tp:Value}{R:Result->Shared->Prop}(X:K.In s.heap)(L0:PySem.W.Looks (model prog w) s.heap (typeOf (.ref a)) (.ref C))(hm:PySem.W.mroIn K C (.type "object")=some true)
   (h:R (.ok (.ret (.ref C))) s):codeAny (model prog w) A (.call (.builtin "getset_descriptor.__get__") ⟨[.builtin "object.__class__",.ref a,tp],[]⟩) R s:=by
 obtain ⟨hh,g,dr,t,os⟩:=s;have L1:=looks_mroIn (M:=model prog w) X hm;refine codeAny_call_builtin KF.slot_gs.plain KF.entry_gs (KF.slot_gs.check _ _ _ _ _ _ _ _ KF.type_class (KF.args_gs _ _ _) ?_);unfold Builtin.«getset_descriptor.__get__» descrGet;rw[dga_obj];refine wpAny_bind (wpAny_pure ?_);unfold descrGetter descrCheckInstance descrNameAndClass isInstance;simp only[KF.owner_class]
 repeat lk
 refine ⟨Code.quiet_builtin _ (by decide+kernel),codeAny_builtin KF.entry_class ?_⟩;unfold Builtin.«object.__class__» shownTypeOf
 repeat lk
 exact h
theorem cr5 {M:Model}{nameV:Value}{Q:Unit->Shared->Prop}(X:K.In s.heap)(L0:PySem.W.Looks M s.heap (typeOf (.ref a)) (.ref C))(hm:PySem.W.mroIn K C (.type "BaseException")=some true)
   (hq:Q () s):wpAny M A (checkBuiltinCall "BaseException.__getattribute__" ⟨[.ref a,nameV],[]⟩) Q E s:=by
 obtain ⟨hh,g,dr,t,os⟩:=s;have L1:=looks_mroIn (M:=M) X hm
 have hk:builtinKind "BaseException.__getattribute__"=some .slot:=by decide+kernel
 have hsplit:splitId "BaseException.__getattribute__"=some ("BaseException","__getattribute__"):=by decide+kernel
 have ha:=F.args_bexc_ga (.ref a) nameV;simp only[checkBuiltinCall,hk,hsplit];unfold isInstance
 repeat (first|lk|wp_step)
 exact hq
theorem cr6 {tk:Tok}{Q:Fin->Shared->Prop}(X:K.In s.heap)(L0:PySem.W.Looks (model prog w) s.heap (typeOf (.ref a)) (.ref C))(I:bl7 K C)(hq:Q (.done (.ret (.ref C))) s):
   wpAny (model prog w) A (Builtin.«object.__getattribute__» ⟨[.ref a,.str "__class__" tk],[]⟩) Q E s:=by
 obtain ⟨hh,g,dr,t,os⟩:=s;have L1:=looks_findIn (M:=model prog w) X I.cls;have L2:=looks_specialIn (M:=model prog w) X I.get;have L3:=looks_takesIn (M:=model prog w) X I.tak;unfold Builtin.«object.__getattribute__»
 repeat lk
 refine wpAny_run (bs8 X L0 I.obj ?_)
 repeat (first|exact hq|lk)
theorem bl8 {Q:Option Value->Shared->Prop}(X:K.In s.heap)(L0:PySem.W.Looks (model prog w) s.heap (typeOf (.ref a)) (.ref C))(I:bl7 K C)(h:Q (some (.ref C)) {s with toks:=s.toks+1}):
   wpAny (model prog w) A (getAttr? (.ref a) "__class__") Q E s:=by
 obtain ⟨hh,g,dr,t,os⟩:=s;have L1:=looks_findIn (M:=model prog w) X I.ga;have L2:=looks_findIn (M:=model prog w) X I.hook;have hb:=PySem.F.attrBase_ValueError.ga.bind (.ref a);unfold getAttr? getAttrBy? getAttrBy;refine wpAny_bind (wpAny_mkText (wpAny_bind (wpAny_attempt (wpAny_holding (wpAny_bind (L0.at (wpAny_bind (L1.at ?_))))))))
 dsimp only
 rw[if_neg (show ¬((onTheHeap (Value.ref C)&&Value.builtin "BaseException.__getattribute__"==Value.builtin "object.__getattribute__")=true) from by
   rw[show (Value.builtin "BaseException.__getattribute__"==Value.builtin "object.__getattribute__")=false from by decide+kernel,Bool.and_false];exact ee2)]
 unfold getAttrByItsOwn hookBefore;refine wpAny_bind ?_;rw[if_pos (show onTheHeap (Value.ref C)=true from rfl)];refine L2.at ?_;refine wpAny_bind (wpAny_attempt (wpAny_holding ?_));unfold callGetattribute;rw[if_neg (by simp)];unfold boundAndCalled;rw[hb];refine wpAny_bind (wpAny_pure ?_);refine wpAny_call (codeAny_call_builtin PySem.F.attrBase_ValueError.ga.plain F.entry_bexc_ga (cr5 X L0 I.bex (cr6 X L0 I ?_)));refine handed_on (M:=model prog w) rfl ?_;exact wpAny_pure h
theorem cy7 (I:bl7 K C):PySem.W.KitX K (.ref a) (.ref C) (fun h=>∃oe vs,h.get? a=some oe/\oe.cls= .ref C/\oe.data= .fields vs) where
 ty:=fun M h _ ⟨oe,vs,h1,h2,_⟩=>h2▸(PySem.W.Looks.ld h1).andThen .now
 it:=fun M h X _=>by
   obtain ⟨oc,h1,cd,h2⟩:=I.isc;obtain ⟨c1,c2,c3,c4⟩:=oc
   dsimp only at h2
   subst h2;intro A' Q' E' s' k q;unfold isType loadHead;exact wpAny_bind (wpAny_loadPart (k _ _ (X _ _ h1)) (wpAny_pure q))
 ne:=fun h tp dd its n sl X htp=>by
   obtain ⟨oc,h1,cd,h2⟩:=I.isc
   refine Bool.eq_false_iff.mpr fun q=> ?_
   have e:C=tp:=Value.ref.inj (beq_iff_eq.mp q);subst e;have z:=(X _ _ h1).symm.trans htp;cases z;cases h2
 ca:=fun {prog w A E Q s} X ⟨oe,vs,h1,h2,_⟩ k=>bl8 X (h2▸(PySem.W.Looks.ld h1).andThen .now) I k
end
section
variable {X:Cx}
def dc7 (K:PySem.W.Frag):List V->Hp->VK->Prop:=fun xs H Q=>∃a C c u b,xs=[.ref a,c]/\((∃D,c= .ref D/\u=Value.ref D)\/(∃n,c= .ty n/\u=Value.type n))/\H a=some (bx5 a C)/\bl7 K C/\PySem.W.kitOne K (.ref C) u=some b/\Q (.bl b) H
theorem cr7:W9 X (.builtin "isinstance") (dc7 X.K):=by
 intro pins s σ H xs us Q I r h;obtain ⟨a,C,c,u,b,rfl,hc,hH,ei,hk,q⟩:=h;obtain ⟨u1,u2,rfl,r1,r2⟩:=bt6 r;cases (show u1=Value.ref a from r1)
 have e2:u2=u:=by
   rcases hc with ⟨D,rfl,rfl⟩|⟨n,rfl,rfl⟩
   · exact r2
   · exact r2
 subst e2;have p:=(show B0 X.prog X.w H s.heap a (bx5 a C) from I.hok a _ hH).1
 exact PySem.W.kia_one (cy7 ei) I.kIn p hk (fun z=>nomatch z) fun tk=>⟨.bl b,H,I.tok tk,rfl,q⟩
theorem R5 {a b:Expr}{ta:TA}{p pos:Pos}(hm:X.mg "isinstance"=none)(ha:PA X [a,b] ta)(hg:Gl X "isinstance":=by rfl)
 (he:starEach [a,b] X.env=(false,eval a X.env)::starEach [b] X.env:=by rfl) (hpl:(backTo pos (starEach [b] X.env)).any (·.1)=false:=by rfl):
 PE X (.Call (.Name "isinstance" p) [a,b] [] pos) (tCB (dc7 X.K) ta):=V6 cr7 hg hm bw2 ha (by decide) (by decide) he hpl
theorem dg0:bootBuiltins "ValueError"=some (.type "ValueError"):=by decide+kernel
theorem dg1 {p:Pos}(hm:X.mg "ValueError"=none)(hg:Gl X "ValueError":=by rfl):PE X (.Name "ValueError" p) (tC (.ty "ValueError")):=ba3 hg hm dg0 rfl
end
theorem dg2 {K:PySem.W.Frag}{C D:Addr}{b:Bool}(h1:PySem.W.isClsIn K D=true)(h2:PySem.W.typeIn K (.ref D)=some (.type "type"))(h3:PySem.W.mroIn K C (.ref D)=some b)(hs:C=D->b=true):PySem.W.kitOne K (.ref C) (.ref D)=some b:=by
 unfold PySem.W.kitOne
 by_cases e:C=D
 · rw[if_pos (by rw[e];exact beq_self_eq_true _),hs e]
 · rw[if_neg (fun q=>e (Value.ref.inj (beq_iff_eq.mp q)))];unfold PySem.W.kitCls
   dsimp only
   rw[if_pos (by rw[eh9];exact ⟨h1,by rw[h2];exact beq_self_eq_true _⟩)];exact h3
theorem do2 {K:PySem.W.Frag}{C:Addr}(h3:PySem.W.mroIn K C (.type "ValueError")=some true):PySem.W.kitOne K (.ref C) (.type "ValueError")=some true:=by
 unfold PySem.W.kitOne;rw[if_neg (fun q=>by cases beq_iff_eq.mp q)];unfold PySem.W.kitCls
 dsimp only
 rw[if_pos (by decide+kernel)];exact h3
theorem dg3 {K:PySem.W.Frag}{C T:Addr}{b:Bool}(h0:PySem.W.mroIn K T (.type "BaseException")=some true)(h1:PySem.W.isClsIn K T=true)(h2:PySem.W.typeIn K (.ref T)=some (.type "type"))(h3:PySem.W.mroIn K C (.ref T)=some b):PySem.W.exmOne K (.ref C) (.ref T)=some b:=by
 unfold PySem.W.exmOne;rw[if_pos (show (PySem.W.subIn K (.ref T) (.type "BaseException")==some true)=true from beq_iff_eq.mpr h0)];unfold PySem.W.kitCls
 dsimp only
 rw[if_pos (by rw[eh9];exact ⟨h1,by rw[h2];exact beq_self_eq_true _⟩)];exact h3
theorem dg4 {K:PySem.W.Frag}{C:Addr}(ga:PySem.W.findIn K (.ref C) "__getattribute__"=some (some (.builtin "BaseException.__getattribute__")))(hook:PySem.W.findIn K (.ref C) "__getattr__"=some none)(cls:PySem.W.findIn K (.ref C) "__class__"=some (some (.builtin "object.__class__")))
   (get:PySem.W.specialIn K (.builtin "object.__class__") "__get__"=some (some (.builtin "getset_descriptor.__get__"))) (tak:PySem.W.takesIn K (.builtin "object.__class__")=some true) (bex:PySem.W.mroIn K C (.type "BaseException")=some true) (obj:PySem.W.mroIn K C (.type "object")=some true) (isc:PySem.W.isClsIn K C=true):bl7 K C:=
 ⟨ga,hook,cls,get,tak,bex,obj,by
   obtain ⟨cd,h⟩:=es4.mp (show (PySem.W.clsIn K C).isSome=true from isc);unfold PySem.W.clsIn at h
   split at h
   · rename_i ho;exact ⟨_,ho,_,rfl⟩
   · cases h⟩
structure bi5 (K:PySem.W.Frag)(mg:Str->Option Value)(T:Addr)(cs:List (Str×Addr)):Prop where
 top:mg "TurnError"=some (.ref T)
 err:∀p∈cs,Err K mg p.1 p.2
 inst:∀p∈cs,bl7 K p.2
 exm:∀p∈cs,PySem.W.exmOne K (.ref p.2) (.ref T)=some true
 ve:∀p∈cs,PySem.W.kitOne K (.ref p.2) (.type "ValueError")=some true
 pair:∀p∈cs,∀q∈cs,PySem.W.kitOne K (.ref p.2) (.ref q.2)=some (decide (p.1=q.1))
end L2
namespace L2
open PySem PySem.Spec PyProof.Rows
section
variable {X:Cx}
def cf5:V->List V->Hp->VK->Prop:=fun x vs H Q=>∃(l:Addr) (ns:List V) (v:V),x= .ref l/\vs=[v]/\Q2 v=true/\ns.all Q2=true/\H l=some (.lst ns)/\Q (.int ((ns.countP fun i=>eqV i v:Nat):Int)) H
theorem cr8:MtM X "list.count" cf5:=by
 intro pins s σ H x vs v us Q I rx rv h;obtain ⟨l,ns,k,rfl,rfl,fk,fl,hH,q⟩:=h;cases rx
 cases rv with
 |cons rk rr=>
 rename_i u _;cases rr;obtain ⟨z,its,n,r,hl,e⟩:=I.lstM hH
 refine call_meets F.slot_list_count ⟨_,e,rfl⟩ F.entry_list_count (F.args_list_count_2 _ _)
   (SeqAt.list_countAt l its.toArray n none #[] u (eqU k)) ⟨e,fun y hy=> ?_,?_⟩
 · exact ai0 rk fk r fl y (by simpa using hy)
 · have cnt:∀(ms:List V) (us:List Value),l8 ms us->ms.all Q2=true->us.countP (eqU k)=ms.countP fun i=>eqV i k:=by
     intro ms
     induction ms with
     |nil=>intro us h _;cases h;rfl
     |cons m ms ih=>
      intro us h f;rw[ew2,eh9] at f
      cases h with
      |cons h1 h2=>rw[ek4,ek4,ih _ h2 f.2,bh4 h1 f.1]
   rw[show its.toArray.toList.countP (eqU k)=ns.countP fun i=>eqV i k from cnt ns its r fl];exact ⟨.int _,H,I.tok _,⟨_,rfl⟩,q⟩
def cf6:V->List V->Hp->VK->Prop:=fun x vs H Q=>∃(l:Addr) (ns:List V) (v:V) (j:Nat),x= .ref l/\vs=[v]/\Q2 v=true/\ns.all Q2=true/\H l=some (.lst ns)/\(∃y,ns[j]? =some y/\eqV y v=true)/\(∀i y,i < j->ns[i]? =some y->eqV y v=false)/\ns.length<=1000/\Q (.int j) H
theorem cr9:MtM X "list.index" cf6:=by
 intro pins s σ H x vs v us Q I rx rv h;obtain ⟨l,ns,k,j,rfl,rfl,fk,fl,hH,⟨y,hj,hy⟩,hno,hz,q⟩:=h;cases rx
 cases rv with
 |cons rk rr=>
 rename_i u _;cases rr;obtain ⟨z,its,n,r,hl,e⟩:=I.lstM hH;have hjl:j < ns.length:=(eb9.mp hj).1
 have hjI:j < its.length:=by omega
 have at_:∀m (hm:m < its.length),eqU k its[m]=eqV (ns[m]'(by omega)) k:=fun m hm=>by
   have e1:ns[m]? =some (ns[m]'(by omega)):=eb8 (by omega);obtain ⟨u1,z1,q1⟩:=r.get e1;rw[eb8 hm] at z1;rw[Option.some.inj z1];exact bh4 q1 (em9.mp fl _ (ef2 _))
 refine call_meets F.slot_list_index ⟨_,e,rfl⟩ F.entry_list_index (F.args_list_index_2 _ _)
   (SeqAt.list_indexAt l its.toArray n none #[] u (eqU k) j (by simpa using hjI) (by omega) ?_ ?_) ⟨e,fun y hy=> ?_,?_⟩
 · have:eqU k its.toArray[j]=_:=at_ j hjI;rw[this,<-hy,(eb9.mp hj).2]
 · intro m hm hmj
   have hm':m < its.length:=by simpa using hm
   have:eqU k its.toArray[m]=_:=at_ m hm';rw[this];exact hno m _ hmj (eb8 (by omega))
 · exact ai0 rk fk r fl y (by simpa using hy)
 · exact ⟨.int j,H,I.tok _,⟨_,rfl⟩,q⟩
theorem cs0 (K:PySem.W.Frag){o e:Expr}{to:TE}{t:TA}{apos pos:Pos}(ho:PE X o to)(ha:PA X [e] t)(hK:X.K=K:=by rfl)
   (hbase:attributeBase o "count" X.env (eval o X.env)=eval o X.env:=by rfl)
   (hfew:((backTo pos (starEach [e] X.env)).all (fun x=> !x.1)&&(backToKw pos (keywordEach [] X.env)).all (fun x=>x.1.isSome)
     &&decide ([e].length+([]:List Keyword).length+(if ([]:List Keyword).isEmpty then 0 else 1) < 30))=true:=by rfl)
   (hline:(apos.endLine==pos.line)=true:=by rfl) (hs:starEach [e] X.env=(false,eval e X.env)::starEach [] X.env:=by rfl) (hplain:(backTo pos (starEach [] X.env)).any (·.1)=false:=by rfl):
   PE X (.Call (.Attribute o "count" apos) [e] [] pos) (tBM K "list" cf5 to t):=by
 subst hK;exact ba7 PySem.F.plainAttrs_list PySem.F.slot_list_count PySem.F.type_list_count cr8 ho ha hbase hfew hline hs hplain
theorem cs1 (K:PySem.W.Frag){o e:Expr}{to:TE}{t:TA}{apos pos:Pos}(ho:PE X o to)(ha:PA X [e] t)(hK:X.K=K:=by rfl)
   (hbase:attributeBase o "index" X.env (eval o X.env)=eval o X.env:=by rfl)
   (hfew:((backTo pos (starEach [e] X.env)).all (fun x=> !x.1)&&(backToKw pos (keywordEach [] X.env)).all (fun x=>x.1.isSome)
     &&decide ([e].length+([]:List Keyword).length+(if ([]:List Keyword).isEmpty then 0 else 1) < 30))=true:=by rfl)
   (hline:(apos.endLine==pos.line)=true:=by rfl) (hs:starEach [e] X.env=(false,eval e X.env)::starEach [] X.env:=by rfl) (hplain:(backTo pos (starEach [] X.env)).any (·.1)=false:=by rfl):
   PE X (.Call (.Attribute o "index" apos) [e] [] pos) (tBM K "list" cf6 to t):=by
 subst hK;exact ba7 PySem.F.plainAttrs_list PySem.F.slot_list_index PySem.F.type_list_index cr9 ho ha hbase hfew hline hs hplain
end
def ap0:List Expr->Option (List Str)
 |[]=>some []
 | .Constant (.str i) _ _::es=>(ap0 es).map (i:: ·)
 |_::_=>none
def dt4 (ns:List Str):TA:=fun _ H Q=>Q (ns.map V.str) H
def dc8 (ns:List Str):TE:=fun _ H Q=>ns.length<=sizeLine/\∀p,H p=none->Q (.ref p) (c9 H p (.lst (ns.map V.str)))
theorem bx6 (i:Str)(j:Nat)(p:Pos)(es:List Expr)(env:Env):starEach (.Constant (.str i) j p::es) env=(false,eval (.Constant (.str i) j p) env)::starEach es env:=rfl
theorem bx7 {X:Cx}:∀(es:List Expr) (ns:List Str),ap0 es=some ns->PA X es (dt4 ns)
 |[],ns,h=>by
  have:ns=[]:=(Option.some.inj h).symm;subst this
  exact fun pos pins s σ H Q I h=>c6 pos pins s σ H Q I h
 |e::es,ns,h=>by
  unfold ap0 at h
  split at h
  · rename_i h0;cases h0
  · rename_i i j p es' heq;cases heq
    cases ho:ap0 es with
    |none=>rw[ho] at h;cases h
    |some ms=>
     rw[ho] at h;cases h
     exact fun pos pins s σ H Q I h=>(c5 (te:=tC (.str i)) aw3 (bx7 es ms ho) (bx6 i j p es X.env)) pos pins s σ H Q I h
  · cases h
theorem cy8 {X:Cx}{pos:Pos}{es:List Expr}(ns:List Str)(h:ap0 es=some ns):PE X (.List es pos) (dc8 ns):=fun pins s σ H Q I h'=>o6 (bx7 es ns h) pins s σ H Q I (by
 show (ns.map V.str).length<=sizeLine/\_
 rw[eb7];exact h')
theorem dg5 {X:Cx}{i:Nat}{y:Str}{es:List Expr}{py lp sp:Pos}(ns:List Str)(h:ap0 es=some ns)(hN:X.N.Nodup)(hi:X.N[i]? =some y)(hy:Loc X.env.scope y)(hs:swapsWith (.List es lp) (some (.Name y py)) sp.line X.env=pure false:=by rfl)
 (hf:X.fn y=true\/X.env.scope.names.lookup y=some .local:=by first|exact .inl rfl|exact .inr rfl|assumption):
 XPS X (.Assign [.Name y py] (.List es lp) sp) (ci4 (dc8 ns) (bt4 i)):=⟨i6 hN hi hy (cy8 ns h) hs hf⟩
end L2
namespace Mth
theorem bq3 {l m d:Nat}(d1:0 < d):ef6 (d*l) m=d↔d∣m/\ef6 l (m/d)=1:=by
 constructor
 · intro h;have hd:d∣m:=h▸eo8 (d*l) m;refine ⟨hd,?_⟩;have e:m=d*(m/d):=(er7 hd).symm
   have h2:ef6 (d*l) (d*(m/d))=d:=by rw[<-e];exact h
   rw[ex5] at h2;exact en0 d1 (by rw[h2,ek7])
 · rintro ⟨hd,h⟩;have e:m=d*(m/d):=(er7 hd).symm;rw[e,ex5,h,ek7]
end Mth
namespace L2
open PySem PySem.Spec PyProof.Rows
def ck5 (a b:Sp):Sp:=fun vs H Q E=>a vs H Q E\/b vs H Q E
section
variable {P:Program} {w:World} {K:PySem.W.Frag} {mg:Str->Option Value} {base:Heap} {CX:CXT} {k:Nat} {f:Addr} {fd:FuncData} {ps:List Str} {a b:Sp}
theorem dt5 (x:o8 P w K mg base CX k f fd ps a)(y:o8 P w K mg base CX k f fd ps b):o8 P w K mg base CX k f fd ps (ck5 a b):=
 ⟨fun vs H Q E h=>h.elim (x.len vs H Q E) (y.len vs H Q E),fun A outer s H args us vs Q E r e bt v h=>h.elim (x.run A outer s H args us vs Q E r e bt v) (y.run A outer s H args us vs Q E r e bt v)⟩
end
end L2
namespace L2
open PySem PySem.Spec PyProof.Rows
section
variable {X:Cx} {p pos:Pos} {e:Expr} {t:TA}
theorem cf7 (K:PySem.W.Frag)(n:Nat)(hu:X.A.units+n+1 < cLine)(hK:X.K=K:=by rfl):O7 X (compareOp .NotEq) (cj6 K n true):=by
 subst hK;exact ae7 n hu
theorem dg6 (K:PySem.W.Frag)(n:Nat)(hu:X.A.units+n+1 < cLine)(hK:X.K=K:=by rfl):O7 X (compareOp .Eq) (cj6 K n false):=by
 subst hK;exact ao4 n hu
end
end L2
namespace L2
open PySem PySem.Spec PyProof.Rows
section
variable {X:Cx}
theorem cy9 {e:Expr}:PE X e (fun _ _ _=>False):=fun _ _ _ _ _ _ h=>h.elim
end
end L2
namespace HT
open PySem PySem.Spec PyProof.Rows
open PySem.AutoSeq1
open PySem.MeetsSeq PySem.MeetsSeq2 PySem.MeetsSeq3
theorem bl9 {xs:Array Value}{i:Nat}{x:Value}{r:List Value}(h:xs.toList.drop i=x::r):xs[((i:Nat):Int).toNat]? =some x/\xs.toList.drop (i+1)=r/\i < xs.size:=by
 have hl:i < xs.size:=by
   rcases ey2 i xs.size with z|z
   · exact z
   · rw[List.drop_of_length_le (by simpa using z)] at h;cases h
 refine ⟨?_,?_,hl⟩
 · rw[eg3,<-eh6];have:=congrArg List.head? h;rw[List.head?_drop] at this
   simpa using this
 · have:=congrArg List.tail h;rw[List.tail_drop] at this;exact this
theorem bx8 {xs:Array Value}{i:Nat}(h:xs.toList.drop i=[]):xs[((i:Nat):Int).toNat]? =none/\xs.size<=i:=by
 have hl:xs.size<=i:=by
   have:=congrArg et3 h;rw[eg1] at this;simp at this;omega
 exact ⟨by rw[eg3];simp [hl],hl⟩
abbrev ck6 (h:Heap)(a:Addr)(xs:Array Value)(n:Nat):Prop:=h.get? a=some {cls:= .type "list",dict:=none,data:= .seq xs n,slots:= #[]}
theorem dg7 (l b:Addr)(items items2:Array Value)(n n2:Nat):∀(ns ms:List Int) (vs ws:List Value) (i:Nat),IntsAre vs ns->IntsAre ws ms->items.toList.drop i=vs->items2.toList.drop i=ws->i<=items.size->i<=items2.size->
   Meets (Builtin.«list.__eq__.loop» ⟨[.ref l,.ref b,rawInt i,rawInt 0],[]⟩)
     (fun _ R s=>(ck6 s.heap l items n/\ck6 s.heap b items2 n2)/\R (.ok (.ret (.bool (ba5 ns ms)))) s):=by
 intro ns
 induction ns with
 |nil=>
  intro ms vs ws i hv hw e1 e2 i1 i2 prog w A R s h;obtain ⟨h0,g0,d0,k0,o0⟩:=s;obtain ⟨⟨hx,hy⟩,h⟩:=h;cases hv;obtain ⟨g1,z1⟩:=bx8 e1
  wp_walk using wpAny_loadPart' hx,wpAny_loadPart' hy
  rw[g1]
  cases hw with
  |nil=>
   obtain ⟨g2,z2⟩:=bx8 e2
   wp_walk using wpAny_loadPart' hx,wpAny_loadPart' hy
   show R (.ok (.ret (.bool (decide (items.size < items2.size))))) _;rw[decide_eq_false (by omega)];exact h
  |cons c u hw'=>
   obtain ⟨g2,_,z2⟩:=bl9 e2
   wp_walk using wpAny_loadPart' hx,wpAny_loadPart' hy
   show R (.ok (.ret (.bool (decide (items.size < items2.size))))) _;rw[decide_eq_true (by omega)];exact h
 |cons a ns ih=>
  intro ms vs ws i hv hw e1 e2 i1 i2 prog w A R s h;obtain ⟨h0,g0,d0,k0,o0⟩:=s;obtain ⟨⟨hx,hy⟩,h⟩:=h
  cases hv with
  |cons _ t hv'=>
   obtain ⟨g1,d1,z1⟩:=bl9 e1
   wp_walk using wpAny_loadPart' hx,wpAny_loadPart' hy
   rw[g1]
   cases hw with
   |nil=>
    obtain ⟨g2,z2⟩:=bx8 e2;rw[g2]
    wp_walk using wpAny_loadPart' hx,wpAny_loadPart' hy
    show R (.ok (.ret (.bool (decide (items.size < items2.size))))) _;rw[decide_eq_false (by omega)];exact h
   |cons c u hw'=>
    obtain ⟨g2,d2,z2⟩:=bl9 e2;rw[g2];rw[cj1] at h;obtain ⟨e,he,hiff⟩:=cx0 A.in1 ⟨h0,g0,d0,k0,o0⟩ a t c u;refine wpAny_bind (he prog w _ _ ?_)
    cases e with
    |true=>
     rw[if_pos (hiff.mp rfl)] at h
     wp_walk
     rw[show ((i:Int)+1)=((i+1:Nat):Int) from rfl];refine ⟨plainId_quiet plain_eq_loop _,codeAny_builtin entry_eq_loop ?_⟩
     (rw[Around.under_plainId plain_eq_loop _];exact ih _ _ _ (i+1) hv' hw' d1 d2 (by omega) (by omega) prog w A R _ ⟨⟨hx,hy⟩,h⟩)
    |false=>
     rw[if_neg (fun q=>absurd (hiff.mpr q) ee2)] at h;have less:=cx1 A.in1 ⟨h0,g0,d0,k0,o0⟩ a t c u prog w
     wp_walk using wpAny_loadPart' hx,wpAny_loadPart' hy
     rw[g1,g2]
     wp_walk using less
     exact h
theorem do3 (l b:Addr)(items items2:Array Value)(n n2:Nat)(ns ms:List Int)(hi:IntsAre items.toList ns)(hj:IntsAre items2.toList ms):
   Meets (Builtin.«list.__lt__» ⟨[.ref l,.ref b],[]⟩)
     (fun _ R s=>(ck6 s.heap l items n/\ck6 s.heap b items2 n2)/\R (.ok (.ret (.bool (ba5 ns ms)))) s):=by
 intro prog w A R s h;obtain ⟨h0,g0,d0,k0,o0⟩:=s;obtain ⟨⟨hx,hy⟩,h⟩:=h;have sub:=AutoSeq1.sub_list_list
 wp_walk using wpAny_loadPart' hx,wpAny_loadPart' hy
 refine ⟨plainId_quiet plain_eq_loop _,codeAny_builtin entry_eq_loop ?_⟩
 (rw[Around.under_plainId plain_eq_loop _];exact dg7 l b items items2 n n2 ns ms _ _ 0 hi hj rfl rfl (ed7 _) (ed7 _) prog w A R _ ⟨⟨hx,hy⟩,h⟩)
end HT
namespace L2
open PySem PySem.Spec PyProof.Rows
section
variable {prog:Program} {w:World} {A:Around} {E:Value->Shared->Prop} {s:Shared}
def al2 (h:Heap)(v:Value)(ns:List Int):Prop:=∃p xs n,v= .ref p/\HT.ck6 h p xs n/\IntsAre xs.toList ns
theorem bi6 {α β:Type}{f:α->Sem β}(g:α->β):∀{vs:List α} {Q:List β->Shared->Prop},(∀v,v∈vs->∀R:β->Shared->Prop,R (g v) s->wpAny (model prog w) A (f v) R E s)->Q (vs.map g) s->wpAny (model prog w) A (vs.mapM f) Q E s
 |[],Q,_,q=>by rw[List.mapM_nil];exact wpAny_pure q
 |v::vs,Q,k,q=>by
  rw[List.mapM_cons];refine wpAny_bind (k v (ec5 ..) _ ?_);refine wpAny_bind (bi6 g (fun u hu=>k u (ec7 _ hu)) ?_);exact wpAny_pure q
theorem bx9 {α β:Type}{f:α->Sem β}(g:α->β){vs:List α}{Q:Array β->Shared->Prop}(k:∀v,v∈vs->∀R:β->Shared->Prop,R (g v) s->wpAny (model prog w) A (f v) R E s)(q:Q (vs.map g).toArray s):wpAny (model prog w) A (vs.toArray.mapM f) Q E s:=by
 rw[List.mapM_toArray,map_eq_pure_bind];exact wpAny_bind (bi6 g k (wpAny_pure q))
theorem ck7 (v:Value):firstOfTuple' v=(do
 if (<-typeOf v)!= .type "tuple" then return none
 return (<-Builtin.List.listItems v)[0]?):=rfl
theorem cs2 {v:Value}{ns:List Int}(r:al2 s.heap v ns){Q:Option Value->Shared->Prop}(k:Q none s):wpAny (model prog w) A (firstOfTuple' v) Q E s:=by
 obtain ⟨p,xs,n,rfl,ox,ix⟩:=r;rw[ck7];refine wpAny_bind (wpAny_typeOf (T:="list") ⟨_,ox,rfl⟩ ?_);rw[if_pos (by decide)];exact wpAny_pure k
theorem cz0 {v:Value}{ns:List Int}(r:al2 s.heap v ns){Q:Value->Shared->Prop}(k:Q (.type "list") s):wpAny (model prog w) A (typeOf v) Q E s:=by
 obtain ⟨p,xs,n,rfl,ox,ix⟩:=r;exact wpAny_typeOf (T:="list") ⟨_,ox,rfl⟩ k
theorem cs3 {v₁ v₂:Value}{vs:List Value}{Q:SortKind->Shared->Prop}(r:∀v,v∈v₁::v₂::vs->∃ns,al2 s.heap v ns)(k:Q oneType' s):wpAny (model prog w) A (keyKind' (v₁::v₂::vs).toArray) Q E s:=by
 rw[keyKind'_eq];refine wpAny_bind (bx9 (fun _=>none) (fun v hv R q=>by obtain ⟨ns,z⟩:=r v hv;exact cs2 z q) ?_);rw[if_neg (by simp),if_neg (by simp)];rw[oneTypeOnly'_eq];refine wpAny_bind (wpAny_bind (bx9 (fun _=>Value.type "list") (fun v hv R q=>by obtain ⟨ns,z⟩:=r v hv;exact cz0 z q) ?_))
 have h0:(List.map (fun _=>Value.type "list") (v₁::v₂::vs)).toArray[0]? =some (Value.type "list"):=by simp
 rw[h0]
 dsimp only
 rw[if_pos (by
   simp only[List.all_toArray,List.all_map,em9];intro _ _
   rfl)]
 exact wpAny_pure (wpAny_pure k)
theorem bq4 (vs:List Value):(pairsOf vs).map (·.2)=vs.toArray:=by
 apply Array.toList_inj.mp
 rw[ex6,pairsOf_toList];exact List.map_snd_zip (ec0 _)
end
end L2
namespace L2
open PySem PySem.Spec PyProof.Rows
def dt6 (i j:Int):Prop:=0 < j/\j.natAbs < 2^9000
theorem by1 {X:Cx}:O7 X (binaryOp .FloorDiv) (rI dt6 fun i j=> .int (i/j)):=opI fun i j _ _ _ _ _ hc q=>by
 have hp:Builtin.divisionGoesByPylong i j=false:=PyProof.noPylong_of_log2 ((Nat.log2_lt (by have:=hc.1;omega)).mpr hc.2);refine floordiv_int (by have:=hc.1;omega) ?_ (.inl hp);rw[ev7 i (by have:=hc.1;omega)];exact q
end L2
namespace Mth
open L2 (Y0)
def bb1 (t:List Int)(rs:List (List Int)):Prop:=∀r∈rs,∀j,j < r.length->C9 t (r.getD j 0)=some (r.getD ((j+1)%r.length) 0)
theorem be7 {t r:List Int}(h:∀j,j < r.length->C9 t (r.getD j 0)=some (r.getD ((j+1)%r.length) 0)){j:Nat}(hj:j < r.length):∀k,it t k (r.getD j 0)=r.getD ((j+k)%r.length) 0
 |0=>by rw[ej1,ef1 hj];rfl
 |k+1=>by
  show nx t (it t k (r.getD j 0))=_;rw[be7 h hj k];have:=h ((j+k)%r.length) (ei3 _ (by omega));unfold C9 at this;unfold nx;rw[ec3,this];show r.getD (((j+k)%r.length+1)%r.length) 0=_;rw[ey6];rfl
theorem cs4 {t:List Int}{rs:List (List Int)}(al:bb1 t rs)(nd:rs.flatten.Nodup):∀r∈rs,∀x∈r,X2 t x=r.length:=by
 intro r hr x hx;obtain ⟨j,hj⟩:=ef8.mp hx;have hjl:j < r.length:=(eb9.mp hj).1
 have ex:x=r.getD j 0:=by rw[ec3,hj];rfl
 have ndr:r.Nodup:=nd.sublist (List.sublist_flatten_of_mem hr);subst ex;refine ai6 ⟨by omega,?_,fun i i0 il=> ?_⟩
 · rw[be7 (al r hr) hjl,eo9,ef1 hjl]
 · rw[be7 (al r hr) hjl];intro e;have hm:(j+i)%r.length < r.length:=ei3 _ (by omega);rw[ec3,ec3,eb8 hm,eb8 hjl] at e;have e2:=(ed5.mp ndr)
   have ne:(j+i)%r.length≠j:=by
     by_cases z:j+i < r.length
     · rw[ef1 z];omega
     · rw[Nat.mod_eq_sub_mod (by omega),ef1 (by omega)];omega
   rcases Nat.lt_or_gt_of_ne ne with z|z
   · exact ee7.mp e2 _ _ hm hjl z e
   · exact ee7.mp e2 _ _ hjl hm z e.symm
end Mth
namespace TS
open PySem PyProof.Rows
section
variable (rk:Keyed->Nat)
def R (xs:Array Keyed)(i:Nat):Nat:=match xs[i]? with
 |some p=>rk p
 |none=>0
def Up (xs:Array Keyed)(lo hi:Nat):Prop:=∀i j,lo<=i->i<=j->j < hi->R rk xs i<=R rk xs j
def bm0 (xs:Array Keyed)(lo hi:Nat):Prop:=∀i j,lo<=i->i<=j->j < hi->R rk xs j<=R rk xs i
end
def I0 (xs ys:Array Keyed)(lo hi:Nat):Prop:=∀k,k < lo\/hi<=k->ys[k]? =xs[k]?
theorem I0.refl (xs:Array Keyed)(lo hi:Nat):I0 xs xs lo hi:=fun _ _=>rfl
theorem I0.trans {xs ys zs:Array Keyed}{lo hi:Nat}(h:I0 xs ys lo hi)(g:I0 ys zs lo hi):I0 xs zs lo hi:=fun k hk=>(g k hk).trans (h k hk)
theorem I0.wide {xs ys:Array Keyed}{lo hi lo' hi':Nat}(h:I0 xs ys lo hi)(h1:lo'<=lo)(h2:hi<=hi'):I0 xs ys lo' hi':=fun k hk=>h k (by omega)
section
variable {rk:Keyed->Nat}
theorem bm1 {xs ys:Array Keyed}{i j:Nat}(h:xs[i]? =ys[j]?):R rk xs i=R rk ys j:=by unfold R;rw[h]
theorem I0.R {xs ys:Array Keyed}{lo hi k:Nat}(h:I0 xs ys lo hi)(hk:k < lo\/hi<=k):TS.R rk ys k=TS.R rk xs k:=bm1 (h k hk)
theorem I0.up {xs ys:Array Keyed}{lo hi a b:Nat}(h:I0 xs ys lo hi)(u:Up rk xs a b)(hk:b<=lo\/hi<=a):Up rk ys a b:=fun i j h1 h2 h3=>by
 rw[h.R (by omega),h.R (by omega)];exact u i j h1 h2 h3
theorem by2 {xs:Array Keyed}{src d:Nat}(hs:src < xs.size)(hd:d<=src)(k:Nat):
   R rk (bubble xs src d) k=if k=src - d then R rk xs src else if src - d < k/\k<=src then R rk xs (k - 1) else R rk xs k:=by
 have e:=getElem?_bubble hs d hd k
 split
 · rename_i h;rw[if_pos h] at e;exact bm1 e
 · rename_i h;rw[if_neg h] at e
   split
   · rename_i h2;rw[if_pos h2] at e;exact bm1 e
   · rename_i h2;rw[if_neg h2] at e;exact bm1 e
theorem cd4 {xs:Array Keyed}{src d lo hi:Nat}(hs:src < xs.size)(hd:d<=src)(h1:lo<=src - d)(h2:src < hi):I0 xs (bubble xs src d) lo hi:=fun k hk=>by
 rw[getElem?_bubble hs d hd k,if_neg (by omega),if_neg (by omega)]
theorem be8 {xs:Array Keyed}{i j:Nat}(hj:j<=xs.size)(k:Nat):R rk (mirror xs i j ((j - i)/2)) k=if i<=k/\k < j then R rk xs (i+j - 1 - k) else R rk xs k:=by
 have e:=getElem?_mirror_all (i:=i) hj k
 split
 · rename_i h;rw[if_pos h] at e;exact bm1 e
 · rename_i h;rw[if_neg h] at e;exact bm1 e
theorem ae3 {xs:Array Keyed}{i j lo hi:Nat}(hj:j<=xs.size)(h1:lo<=i)(h2:j<=hi):I0 xs (mirror xs i j ((j - i)/2)) lo hi:=fun k hk=>by
 rw[getElem?_mirror_all hj k,if_neg (by omega)]
theorem U7 {xs:Array Keyed}{i j:Nat}(hj:j<=xs.size)(h:∀k,i<=k->k < j->R rk xs k=R rk xs (j - 1))(k:Nat):R rk (mirror xs i j ((j - i)/2)) k=R rk xs k:=by
 rw[be8 hj]
 split
 · rw[h _ (by omega) (by omega),h k (by omega) (by omega)]
 · rfl
end
structure Bs (a0:Array Keyed)(κ:SortKind)(st:SortSt):Prop where
 perm:(arrOf st).Perm a0
 kind:kindOf st=κ
 ok:failedOf st=none
theorem Bs.size {a0:Array Keyed}{κ:SortKind}{st:SortSt}(h:Bs a0 κ st):(arrOf st).size=a0.size:=h.perm.size_eq
theorem Bs.set {a0:Array Keyed}{κ:SortKind}{st:SortSt}(h:Bs a0 κ st){xs:Array Keyed}(hp:xs.Perm (arrOf st)):Bs a0 κ (setArr st xs):=⟨hp.trans h.perm,h.kind,h.ok⟩
theorem Bs.mem {a0:Array Keyed}{κ:SortKind}{st:SortSt}(h:Bs a0 κ st){i:Nat}(hi:i < a0.size):∃p,(arrOf st)[i]? =some p/\p∈a0.toList:=by
 have hi':i < (arrOf st).size:=by rw[h.size];exact hi
 exact ⟨(arrOf st)[i],getElem?_pos _ i hi',(em7.mp h.perm).mem_iff.mp (by simp)⟩
section
variable {prog:Program} {w:World} {A:Around} {E:Value->Shared->Prop} {s:Shared}
def Cm (prog:Program)(w:World)(A:Around)(s:Shared)(κ:SortKind)(rk:Keyed->Nat)(a0:Array Keyed):Prop:=
 ∀x∈a0.toList,∀y∈a0.toList,∀(Q:Bool->Shared->Prop) (E':Value->Shared->Prop),Q (decide (rk x < rk y)) s->wpAny (model prog w) A (keyLt' κ x.1 y.1) Q E' s
variable {rk:Keyed->Nat} {a0:Array Keyed} {κ:SortKind}
theorem bi7 {st:SortSt}{x y:Keyed}{Q:Option Bool->SortSt->Prop}(C:Cm prog w A s κ rk a0)(hk:kindOf st=κ)(hx:x∈a0.toList)(hy:y∈a0.toList)(h:Q (some (decide (rk x < rk y))) st):
   wpS (model prog w) A E s (lt' x y) Q st:=by
 rw[lt'_eq];refine wpS_bind (wpS_get ?_);rw[hk];exact wpS_bind (wpS_lift (wpAny_attempt (C x hx y hy _ _ ⟨rfl,wpS_pure h⟩)))
theorem ah1 {st:SortSt}{i j:Nat}{Q:Option Bool->SortSt->Prop}(C:Cm prog w A s κ rk a0)(B:Bs a0 κ st)(hi:i < a0.size)(hj:j < a0.size)(h:Q (some (decide (R rk (arrOf st) i < R rk (arrOf st) j))) st):
   wpS (model prog w) A E s (ltAt' i j) Q st:=by
 obtain ⟨x,ex,mx⟩:=B.mem hi;obtain ⟨y,ey,my⟩:=B.mem hj;rw[ltAt'_eq];refine wpS_bind (wpS_get ?_);show wpS _ _ _ _ (do let u <-elem' (arrOf st) i;let v <-elem' (arrOf st) j;lt' u v) Q st;rw[elem'_eq,elem'_eq,ex,ey];refine wpS_bind (wpS_pure (wpS_bind (wpS_pure (bi7 C B.kind mx my ?_))));unfold R at h;rw[ex,ey] at h;exact h
theorem bi8 {st:SortSt}{i j:Nat}{Q:Unit->SortSt->Prop}(h:Q () (setArr st (mirror (arrOf st) i j ((j - i)/2)))):wpS (model prog w) A E s (reverseSlice' i j) Q st:=by
 rw[reverseSlice'_eq];exact wpS_modify h
theorem do4 {st:SortSt}{lo n ok:Nat}{Q:Bool->SortSt->Prop}(C:Cm prog w A s κ rk a0)(hn:lo+n<=a0.size)(hok:ok<=n)(B:Bs a0 κ st)(hs:Up rk (arrOf st) lo (lo+ok))
   (h:∀st',Bs a0 κ st'->Up rk (arrOf st') lo (lo+n)->I0 (arrOf st) (arrOf st') lo (lo+n)->pendingOf st'=pendingOf st->Q true st'):wpS (model prog w) A E s (binarySort' lo n ok) Q st:=by
 rw[binarySort'_eq]
 refine wpS_bind (wpS_mono (wpS_forRange (I:=fun k c t=>c=(none,())/\Bs a0 κ t/\Up rk (arrOf t) lo (lo+min k n)/\I0 (arrOf st) (arrOf t) lo (lo+n)/\pendingOf t=pendingOf st)
   (Q:=fun c t=>c=(none,())/\Bs a0 κ t/\Up rk (arrOf t) lo (lo+n)/\I0 (arrOf st) (arrOf t) lo (lo+n)/\pendingOf t=pendingOf st) ?step ?fin ?init) ?post)
 case post=>
   rintro c t ⟨rfl,B',u,k,p⟩;exact wpS_pure (h t B' u k p)
 case init=>
   refine ⟨rfl,B,fun i j h1 h2 h3=> ?_,I0.refl _ _ _,rfl⟩
   by_cases z:ok=0
   · have:i=j:=by omega
     rw[this];exact ec0 _
   · exact hs i j h1 h2 (by omega)
 case fin=>
   rintro c t ⟨hc,B',u,k,p⟩;refine ⟨hc,B',?_,k,p⟩
   rwa [show min (max (max ok 1) n) n=n by omega] at u
 case step=>
   rintro k c t h1 h2 ⟨rfl,B',u,kp,pe⟩;rw[show min k n=k by omega] at u
   refine wpS_bind (wpS_mono (wpS_forRange (I:=fun x c t'=>t'=t/\∃l r,c=(none,l,r)/\l<=r/\r<=k/\r - l<=k - x/\
       (∀i,i < l->R rk (arrOf t) (lo+i)<=R rk (arrOf t) (lo+k))/\(∀i,r<=i->i < k->R rk (arrOf t) (lo+k) < R rk (arrOf t) (lo+i)))
     (Q:=fun c t'=>t'=t/\∃l r,c=(none,l,r)/\l<=k/\(∀i,i < l->R rk (arrOf t) (lo+i)<=R rk (arrOf t) (lo+k))/\(∀i,l<=i->i < k->R rk (arrOf t) (lo+k) < R rk (arrOf t) (lo+i))) ?st2 ?fin2 ?init2) ?post2)
   case init2=>exact ⟨rfl,0,k,rfl,by omega,by omega,by omega,fun i hi=>by omega,fun i h1 h2=>by omega⟩
   case fin2=>
     rintro c t' ⟨rfl,l,r,rfl,a1,a2,a3,a4,a5⟩
     have:l=r:=by omega
     subst this;exact ⟨rfl,l,l,rfl,a2,a4,a5⟩
   case st2=>
     rintro x c t' _ hx ⟨rfl,l,r,rfl,a1,a2,a3,a4,a5⟩
     dsimp only
     by_cases z:l≥r
     · rw[if_pos z]
       have:l=r:=by omega
       subst this;exact wpS_pure ⟨rfl,l,l,rfl,a2,a4,a5⟩
     · rw[if_neg z];refine wpS_bind (ah1 C B' (by omega) (by omega) ?_)
       by_cases y:R rk (arrOf t') (lo+k) < R rk (arrOf t') (lo+(l+r)/2)
       · simp only[y,decide_true,if_true];refine wpS_pure ⟨rfl,l,(l+r)/2,rfl,by omega,by omega,by omega,a4,fun i b1 b2=> ?_⟩;have:=u (lo+(l+r)/2) (lo+i) (by omega) (by omega) (by omega);omega
       · simp only[y,decide_false,em0,if_false];refine wpS_pure ⟨rfl,(l+r)/2+1,r,rfl,by omega,by omega,by omega,fun i b1=> ?_,a5⟩;have:=u (lo+i) (lo+(l+r)/2) (by omega) (by omega) (by omega);omega
   case post2=>
     rintro c t' ⟨rfl,l,r,rfl,a1,a2,a3⟩;show wpS _ _ _ _ (do moveDown' (lo+k) (lo+l);pure (ForInStep.yield (none,()))) _ _;rw[moveDown'_eq]
     have hz:lo+k < (arrOf t').size:=by rw[B'.size];omega
     refine wpS_bind (wpS_modify (wpS_pure ⟨rfl,B'.set (bubble_perm _ _ _),?_,kp.trans (cd4 hz (by omega) (by omega) (by omega)),pe⟩));rw[show min (k+1) n=k+1 by omega];intro i j b1 b2 b3;show R rk (bubble (arrOf t') (lo+k) (lo+k - (lo+l))) i<=R rk (bubble (arrOf t') (lo+k) (lo+k - (lo+l))) j
     have f1:∀i,lo<=i->i < lo+l->R rk (arrOf t') i<=R rk (arrOf t') (lo+k):=fun i c1 c2=>by have:=a2 (i - lo) (by omega);rwa [show lo+(i - lo)=i by omega] at this
     have f2:∀i,lo+l<=i->i < lo+k->R rk (arrOf t') (lo+k) < R rk (arrOf t') i:=fun i c1 c2=>by have:=a3 (i - lo) (by omega) (by omega);rwa [show lo+(i - lo)=i by omega] at this
     rw[by2 hz (by omega),by2 hz (by omega),show lo+k - (lo+k - (lo+l))=lo+l by omega]
     repeat' split
     all_goals first
       |(exfalso;omega)
       |exact ec0 _
       |exact f1 _ (by omega) (by omega)
       |exact ei1 (f2 _ (by omega) (by omega))
       |exact u _ _ (by omega) (by omega) (by omega)
end
end TS
namespace TS
open PySem PyProof.Rows
section
variable {prog:Program} {w:World} {A:Around} {E:Value->Shared->Prop} {s:Shared}
variable {rk:Keyed->Nat} {a0:Array Keyed} {κ:SortKind}
theorem cs5 {xs:Array Keyed}{lo x:Nat}(u:Up rk xs lo (lo+x))(x1:1<=x)(h:¬R rk xs (lo+x) < R rk xs (lo+x - 1)):Up rk xs lo (lo+(x+1)):=fun i j h1 h2 h3=>by
 by_cases hj:j < lo+x
 · exact u i j h1 h2 hj
 · have e:j=lo+x:=by omega
   subst e
   by_cases hi:i=lo+x
   · rw[hi];exact ec0 _
   · have:=u i (lo+x - 1) h1 (by omega) (by omega);omega
theorem ai7 {xs:Array Keyed}{lo x:Nat}(u:bm0 rk xs lo (lo+x))(x1:1<=x)(h:R rk xs (lo+x)<=R rk xs (lo+x - 1)):bm0 rk xs lo (lo+(x+1)):=fun i j h1 h2 h3=>by
 by_cases hj:j < lo+x
 · exact u i j h1 h2 hj
 · have e:j=lo+x:=by omega
   subst e
   by_cases hi:i=lo+x
   · rw[hi];exact ec0 _
   · have:=u i (lo+x - 1) h1 (by omega) (by omega);omega
def cz1 (a0:Array Keyed)(κ:SortKind)(rk:Keyed->Nat)(lo nrem:Nat)(st:SortSt)(r:Option Nat)(t:SortSt):Prop:=
 ∃m,r=some m/\Bs a0 κ t/\1<=m/\m<=nrem/\Up rk (arrOf t) lo (lo+m)/\I0 (arrOf st) (arrOf t) lo (lo+nrem)/\pendingOf t=pendingOf st
theorem do5 {st:SortSt}{lo nrem:Nat}(C:Cm prog w A s κ rk a0)(hn:lo+nrem<=a0.size)(n1:1<=nrem)(B:Bs a0 κ st):wpS (model prog w) A E s (countRun' lo nrem) (cz1 a0 κ rk lo nrem st) st:=by
 rw[countRun'_eq]
 refine wpS_bind (wpS_mono (wpS_forRange (I:=fun x c t=>t=st/\c=(none,x)/\Up rk (arrOf st) lo (lo+x))
   (Q:=fun c t=>t=st/\∃n,c=(none,n)/\1<=n/\n<=nrem/\Up rk (arrOf st) lo (lo+n)/\(n=nrem\/R rk (arrOf st) (lo+n) < R rk (arrOf st) (lo+n - 1))) ?step ?fin
   ⟨rfl,rfl,fun i j h1 h2 h3=>by rw[show i=j by omega];exact ec0 _⟩) ?post)
 case fin=>
   rintro c t ⟨rfl,rfl,u⟩;rw[show max 1 nrem=nrem by omega] at u ⊢;exact ⟨rfl,nrem,rfl,n1,ec0 _,u,.inl rfl⟩
 case step=>
   rintro x c t x1 xn ⟨rfl,rfl,u⟩
   dsimp only
   refine wpS_bind (ah1 C B (by omega) (by omega) ?_)
   by_cases y:R rk (arrOf t) (lo+x) < R rk (arrOf t) (lo+x - 1)
   · simp only[y,decide_true,if_true];exact wpS_pure ⟨rfl,x,rfl,x1,by omega,u,.inr y⟩
   · simp only[y,decide_false,em0,if_false];exact wpS_pure ⟨rfl,rfl,cs5 u x1 y⟩
 case post=>
   rintro c t ⟨rfl,n,rfl,m1,mn,u,hor⟩
   dsimp only
   by_cases z:n=nrem
   · rw[if_pos (by simpa using z)];exact wpS_pure ⟨n,rfl,B,m1,mn,u,I0.refl _ _ _,rfl⟩
   · rw[if_neg (by simpa using z)];have lt:=hor.resolve_left z
     suffices D:∀t',Bs a0 κ t'->bm0 rk (arrOf t') lo (lo+(n+1))->I0 (arrOf t) (arrOf t') lo (lo+nrem)->pendingOf t'=pendingOf t->wpS (model prog w) A E s _ (cz1 a0 κ rk lo nrem t) t' by
       by_cases g:n > 1
       · rw[if_pos g];refine wpS_bind (ah1 C B (by omega) (by omega) ?_)
         by_cases y:R rk (arrOf t) lo < R rk (arrOf t) (lo+n - 1)
         · simp only[y,decide_true,if_true];exact wpS_pure ⟨n,rfl,B,m1,mn,u,I0.refl _ _ _,rfl⟩
         · simp only[y,decide_false,em0,if_false]
           have hz:lo+n<=(arrOf t).size:=by rw[B.size];omega
           have all:∀k,lo<=k->k < lo+n->R rk (arrOf t) k=R rk (arrOf t) (lo+n - 1):=fun k h1 h2=>by
             have a1:=u lo k (by omega) h1 h2;have a2:=u k (lo+n - 1) h1 (by omega) (by omega);omega
           refine wpS_bind (bi8 (D _ (B.set (mirror_perm _ _ _ _)) ?_ (ae3 hz (ec0 _) (by omega)) rfl));refine ai7 (fun i j h1 h2 h3=> ?_) m1 ?_
           · show R rk (mirror (arrOf t) _ _ _) j<=R rk (mirror (arrOf t) _ _ _) i;rw[U7 hz all,U7 hz all,all i h1 (by omega),all j (by omega) h3];exact ec0 _
           · show R rk (mirror (arrOf t) _ _ _) _<=R rk (mirror (arrOf t) _ _ _) _;rw[U7 hz all,U7 hz all];omega
       · rw[if_neg g];refine D _ B (ai7 (fun i j h1 h2 h3=>by rw[show i=j by omega];exact ec0 _) m1 (by omega)) (I0.refl _ _ _) rfl
     intro t1 B1 d1 k1 p1;refine wpS_bind (wpS_lift (wpAny_rule ⟨rfl,?_⟩))
     refine wpS_bind (wpS_mono (wpS_forRange (I:=fun x c t'=>∃q,c=(none,x,q)/\Bs a0 κ t'/\bm0 rk (arrOf t') lo (lo+x)/\q+1<=x/\(∀i,lo+x - (q+1)<=i->i < lo+x->R rk (arrOf t') i=R rk (arrOf t') (lo+x - 1))/\I0 (arrOf t) (arrOf t') lo (lo+nrem)/\pendingOf t'=pendingOf t)
       (Q:=fun c t'=>∃x q,c=(none,x,q)/\n+1<=x/\x<=nrem/\Bs a0 κ t'/\bm0 rk (arrOf t') lo (lo+x)/\q+1<=x/\(∀i,lo+x - (q+1)<=i->i < lo+x->R rk (arrOf t') i=R rk (arrOf t') (lo+x - 1))/\I0 (arrOf t) (arrOf t') lo (lo+nrem)/\pendingOf t'=pendingOf t) ?step2 ?fin2
       ⟨0,rfl,B1,d1,by omega,(fun i h1 h2=>by rw[show i=lo+(n+1) - 1 by omega]),k1,p1⟩) ?post2)
     case fin2=>
       rintro c t' ⟨q,rfl,B',d,q1,al,k,p⟩;rw[show max (n+1) nrem=nrem by omega] at d q1 al ⊢;exact ⟨nrem,q,rfl,by omega,ec0 _,B',d,q1,al,k,p⟩
     case step2=>
       rintro x c t' x1 xn ⟨q,rfl,B',d,q1,al,k,p⟩
       dsimp only
       have hz:lo+x<=(arrOf t').size:=by rw[B'.size];omega
       refine wpS_bind (ah1 C B' (by omega) (by omega) ?_)
       by_cases y:R rk (arrOf t') (lo+x) < R rk (arrOf t') (lo+x - 1)
       · simp only[y,decide_true,if_true]
         by_cases g:q > 0
         · rw[if_pos g];refine wpS_bind (bi8 (wpS_pure ⟨0,rfl,B'.set (mirror_perm _ _ _ _),?_,by omega,(fun i h1 h2=>by rw[show i=lo+(x+1) - 1 by omega]),k.trans (ae3 hz (by omega) (by omega)),p⟩));refine ai7 (fun i j h1 h2 h3=> ?_) (by omega) ?_
           · show R rk (mirror (arrOf t') _ _ _) j<=R rk (mirror (arrOf t') _ _ _) i;rw[U7 hz al,U7 hz al];exact d i j h1 h2 h3
           · show R rk (mirror (arrOf t') _ _ _) _<=R rk (mirror (arrOf t') _ _ _) _;rw[U7 hz al,U7 hz al];omega
         · rw[if_neg g];exact wpS_pure ⟨0,rfl,B',ai7 d (by omega) (by omega),by omega,(fun i h1 h2=>by rw[show i=lo+(x+1) - 1 by omega]),k,p⟩
       · simp only[y,decide_false,em0,if_false];refine wpS_bind (ah1 C B' (by omega) (by omega) ?_)
         by_cases g:R rk (arrOf t') (lo+x - 1) < R rk (arrOf t') (lo+x)
         · simp only[g,decide_true,if_true];exact wpS_pure ⟨x,q,rfl,x1,by omega,B',d,q1,al,k,p⟩
         · simp only[g,decide_false,em0,if_false]
           have e:R rk (arrOf t') (lo+x)=R rk (arrOf t') (lo+x - 1):=by omega
           refine wpS_pure ⟨q+1,rfl,B',ai7 d (by omega) (by omega),by omega,fun i h1 h2=> ?_,k,p⟩;rw[show lo+(x+1) - 1=lo+x by omega]
           by_cases hi:i=lo+x
           · rw[hi]
           · rw[e];exact al i (by omega) (by omega)
     case post2=>
       rintro c t2 ⟨x,q,rfl,x1,xn,B2,d,q1,al,k2,p2⟩
       dsimp only
       have hz:lo+x<=(arrOf t2).size:=by rw[B2.size];omega
       suffices T:∀t3,Bs a0 κ t3->bm0 rk (arrOf t3) lo (lo+x)->I0 (arrOf t) (arrOf t3) lo (lo+nrem)->pendingOf t3=pendingOf t->wpS (model prog w) A E s _ (cz1 a0 κ rk lo nrem t) t3 by
         by_cases g:q > 0
         · rw[if_pos g];refine wpS_bind (bi8 (T _ (B2.set (mirror_perm _ _ _ _)) (fun i j h1 h2 h3=> ?_) (k2.trans (ae3 hz (by omega) (by omega))) p2));show R rk (mirror (arrOf t2) _ _ _) j<=R rk (mirror (arrOf t2) _ _ _) i;rw[U7 hz al,U7 hz al];exact d i j h1 h2 h3
         · rw[if_neg g];exact T _ B2 d k2 p2
       intro t3 B3 d3 k3 p3
       have hz3:lo+x<=(arrOf t3).size:=by rw[B3.size];omega
       refine wpS_bind (bi8 ?_);have B4:=B3.set (mirror_perm (arrOf t3) lo (lo+x) ((lo+x - lo)/2))
       have u4:Up rk (arrOf (setArr t3 (mirror (arrOf t3) lo (lo+x) ((lo+x - lo)/2)))) lo (lo+x):=fun i j h1 h2 h3=>by
         show R rk (mirror (arrOf t3) _ _ _) i<=R rk (mirror (arrOf t3) _ _ _) j;rw[be8 hz3,be8 hz3,if_pos (by omega),if_pos (by omega)];exact d3 _ _ (by omega) (by omega) (by omega)
       have k4:I0 (arrOf t) (arrOf (setArr t3 (mirror (arrOf t3) lo (lo+x) ((lo+x - lo)/2)))) lo (lo+nrem):=k3.trans (ae3 hz3 (ec0 _) (by omega));have p4:pendingOf (setArr t3 (mirror (arrOf t3) lo (lo+x) ((lo+x - lo)/2)))=pendingOf t:=p3;generalize setArr t3 (mirror (arrOf t3) lo (lo+x) ((lo+x - lo)/2))=t4 at B4 u4 k4 p4 ⊢;refine wpS_bind (wpS_mono (wpS_forRange (I:=fun y c t'=>t'=t4/\c=(none,y)/\Up rk (arrOf t4) lo (lo+y)) (Q:=fun c t'=>t'=t4/\∃y,c=(none,y)/\x<=y/\y<=nrem/\Up rk (arrOf t4) lo (lo+y)) ?step3 ?fin3 ⟨rfl,rfl,u4⟩) ?post3)
       case fin3=>
         rintro c t' ⟨rfl,rfl,v⟩;rw[show max x nrem=nrem by omega] at v ⊢;exact ⟨rfl,nrem,rfl,xn,ec0 _,v⟩
       case step3=>
         rintro y c t' y1 yn ⟨rfl,rfl,v⟩
         dsimp only
         refine wpS_bind (ah1 C B4 (by omega) (by omega) ?_)
         by_cases g:R rk (arrOf t') (lo+y) < R rk (arrOf t') (lo+y - 1)
         · simp only[g,decide_true,if_true];exact wpS_pure ⟨rfl,y,rfl,y1,by omega,v⟩
         · simp only[g,decide_false,em0,if_false];exact wpS_pure ⟨rfl,rfl,cs5 v (by omega) g⟩
       case post3=>
         rintro c t' ⟨rfl,y,rfl,y1,yn,v⟩;exact wpS_pure ⟨y,rfl,B4,by omega,yn,v,k4,p4⟩
end
end TS
namespace TS
open PySem PyProof.Rows
def gal:Bool->Keyed->Array Keyed->Nat->Nat->Nat->StateT SortSt Sem (Option Nat):=sortPriv%PySem.Builtin.gallop
section
variable {prog:Program} {w:World} {A:Around} {E:Value->Shared->Prop} {s:Shared}
variable {rk:Keyed->Nat} {a0:Array Keyed} {κ:SortKind}
def J6 (rk:Keyed->Nat)(left:Bool)(key:Keyed)(arr:Array Keyed)(base i:Nat):Bool:=if left then decide (R rk arr (base+i) < rk key) else !decide (rk key < R rk arr (base+i))
theorem W0 {left:Bool}{key:Keyed}{arr:Array Keyed}{base n i j:Nat}(u:Up rk arr base (base+n))(h1:i<=j)(h2:j < n)(h:J6 rk left key arr base j=true):J6 rk left key arr base i=true:=by
 have:=u (base+i) (base+j) (by omega) (by omega) (by omega);unfold J6 at h ⊢;cases left
 · simp at h ⊢;omega
 · simp at h ⊢;omega
theorem G4 {arr:Array Keyed}{i:Nat}{st:SortSt}{Q:Keyed->SortSt->Prop}{p:Keyed}(h:arr[i]? =some p)(q:Q p st):wpS (model prog w) A E s (elem' arr i) Q st:=by
 rw[elem'_eq,h];exact wpS_pure q
def In0 (a0 arr:Array Keyed):Prop:=∀x∈arr.toList,x∈a0.toList
theorem In0.at {arr:Array Keyed}(h:In0 a0 arr){i:Nat}(hi:i < arr.size):∃p,arr[i]? =some p/\p∈a0.toList:=⟨arr[i],getElem?_pos _ i hi,h _ (by simp)⟩
theorem L9 {arr:Array Keyed}{i:Nat}{p:Keyed}(h:arr[i]? =some p):R rk arr i=rk p:=by unfold R;rw[h]
theorem ap1 {st:SortSt}{left:Bool}{key:Keyed}{arr:Array Keyed}{base n hint:Nat}{Q:Option Nat->SortSt->Prop}(C:Cm prog w A s κ rk a0)(hk:kindOf st=κ)(ia:In0 a0 arr)(ik:key∈a0.toList)(hz:base+n<=arr.size)(hh:hint < n)
   (u:Up rk arr base (base+n)) (h:∀k,k<=n->(∀i,i < k->J6 rk left key arr base i=true)->(∀i,k<=i->i < n->J6 rk left key arr base i=false)->Q (some k) st):wpS (model prog w) A E s (gal left key arr base n hint) Q st:=by
 have by0:∀(i:Nat) (Q':Option Bool->SortSt->Prop),i < n->Q' (some (J6 rk left key arr base i)) st->wpS (model prog w) A E s (do let x <-elem' arr (base+i);if left then lt' x key else return (<-lt' key x).map (!·)) Q' st:=by
   intro i Q' hi q;obtain ⟨p,e,m⟩:=ia.at (show base+i < arr.size by omega);refine wpS_bind (G4 e ?_);unfold J6 at q;rw[L9 e] at q
   cases left with
   |true=>
    rw[if_pos rfl] at q ⊢;exact bi7 C hk m ik q
   |false=>
    rw[if_neg (by decide)] at q ⊢;exact wpS_bind (bi7 C hk ik m (wpS_pure q))
 refine wpS_bind (by0 hint _ hh ?_)
 cases hr:J6 rk left key arr base hint with
 |true=>
  dsimp only
  rw[if_pos rfl]
  refine wpS_bind (wpS_mono (wpS_forRange (I:=fun x c t=>t=st/\∃l o,c=(none,l,o)/\l < o/\l < n - hint/\x+1<=o/\J6 rk left key arr base (hint+l)=true)
    (Q:=fun c t=>t=st/\∃l o,c=(none,l,o)/\l < o/\l < n - hint/\J6 rk left key arr base (hint+l)=true/\(n - hint<=o\/J6 rk left key arr base (hint+o)=false)) ?step ?fin ⟨rfl,0,1,rfl,by omega,by omega,by omega,hr⟩) ?post)
  case fin=>
    rintro c t ⟨rfl,l,o,rfl,a1,a2,a3,a4⟩;exact ⟨rfl,l,o,rfl,a1,a2,a4,.inl (by omega)⟩
  case step=>
    rintro x c t _ xn ⟨rfl,l,o,rfl,a1,a2,a3,a4⟩
    dsimp only
    by_cases z:o≥n - hint
    · rw[if_pos z];exact wpS_pure ⟨rfl,l,o,rfl,a1,a2,a4,.inl z⟩
    · rw[if_neg z];refine wpS_bind (by0 (hint+o) _ (by omega) ?_)
      cases y:J6 rk left key arr base (hint+o) with
      |true=>
       dsimp only
       rw[if_neg (by decide)];exact wpS_pure ⟨rfl,_,_,rfl,by omega,by omega,by omega,y⟩
      |false=>
       dsimp only
       rw[if_pos (by decide)];exact wpS_pure ⟨rfl,l,o,rfl,a1,a2,a4,.inr y⟩
  case post=>
    rintro c t ⟨ht,l,o,rfl,a1,a2,a3,a4⟩;obtain rfl:=ht.symm
    dsimp only
    have le1:hint+l+1<=hint+min o (n - hint):=by omega
    have le2:hint+min o (n - hint)<=n:=by omega
    have b1:∀i,i < hint+l+1->J6 rk left key arr base i=true:=fun i h1=>W0 u (show i<=hint+l by omega) (by omega) a3
    have b2:∀i,hint+min o (n - hint)<=i->i < n->J6 rk left key arr base i=false:=fun i h1 h2=>by
      rcases a4 with a4|a4
      · omega
      · cases y':J6 rk left key arr base i with
        |false=>rfl
        |true=>rw[W0 u (show hint+o<=i by omega) h2 y'] at a4;cases a4
    refine wpS_bind (wpS_mono (wpS_forRange (I:=fun x c t=>t=st/\∃lo hi,c=(none,lo,hi)/\lo<=hi/\hi<=n/\hi - lo<=n - x/\(∀i,i < lo->J6 rk left key arr base i=true)/\(∀i,hi<=i->i < n->J6 rk left key arr base i=false))
      (Q:=fun c t=>t=st/\∃lo hi,c=(none,lo,hi)/\hi<=n/\(∀i,i < hi->J6 rk left key arr base i=true)/\(∀i,hi<=i->i < n->J6 rk left key arr base i=false)) ?stepB ?finB ⟨rfl,_,_,rfl,le1,le2,by omega,b1,b2⟩) ?postB)
    case finB=>
      rintro c t ⟨rfl,lo,hi,rfl,a1,a2,a3,a4,a5⟩;rw[show lo=hi by omega] at a4;exact ⟨rfl,lo,hi,rfl,a2,a4,a5⟩
    case stepB=>
      rintro x c t _ xn ⟨rfl,lo,hi,rfl,a1,a2,a3,a4,a5⟩
      dsimp only
      by_cases z:lo≥hi
      · rw[if_pos z];rw[show lo=hi by omega] at a4;exact wpS_pure ⟨rfl,lo,hi,rfl,a2,a4,a5⟩
      · rw[if_neg z];refine wpS_bind (by0 (lo+(hi - lo)/2) _ (by omega) ?_)
        cases y:J6 rk left key arr base (lo+(hi - lo)/2) with
        |true=>
         dsimp only
         rw[if_pos rfl];exact wpS_pure ⟨rfl,_,_,rfl,by omega,a2,by omega,fun i h1=>W0 u (show i<=lo+(hi - lo)/2 by omega) (by omega) y,a5⟩
        |false=>
         dsimp only
         rw[if_neg (by decide)];refine wpS_pure ⟨rfl,_,_,rfl,by omega,by omega,by omega,a4,fun i h1 h2=> ?_⟩
         cases y':J6 rk left key arr base i with
         |false=>rfl
         |true=>rw[W0 u h1 h2 y'] at y;cases y
    case postB=>
      rintro c t ⟨rfl,lo,hi,rfl,a1,a2,a3⟩;exact wpS_pure (h hi a1 a2 a3)
 |false=>
  dsimp only
  rw[if_neg (by decide)]
  refine wpS_bind (wpS_mono (wpS_forRange (I:=fun x c t=>t=st/\∃l o,c=(none,l,o)/\l < o/\l < hint+1/\x+1<=o/\J6 rk left key arr base (hint - l)=false)
    (Q:=fun c t=>t=st/\∃l o,c=(none,l,o)/\l < o/\l < hint+1/\J6 rk left key arr base (hint - l)=false/\(hint+1<=o\/J6 rk left key arr base (hint - o)=true)) ?step ?fin ⟨rfl,0,1,rfl,by omega,by omega,by omega,hr⟩) ?post)
  case fin=>
    rintro c t ⟨rfl,l,o,rfl,a1,a2,a3,a4⟩;exact ⟨rfl,l,o,rfl,a1,a2,a4,.inl (by omega)⟩
  case step=>
    rintro x c t _ xn ⟨rfl,l,o,rfl,a1,a2,a3,a4⟩
    dsimp only
    by_cases z:o≥hint+1
    · rw[if_pos z];exact wpS_pure ⟨rfl,l,o,rfl,a1,a2,a4,.inl z⟩
    · rw[if_neg z];refine wpS_bind (by0 (hint - o) _ (by omega) ?_)
      cases y:J6 rk left key arr base (hint - o) with
      |false=>
       dsimp only
       rw[if_neg (by decide)];exact wpS_pure ⟨rfl,_,_,rfl,by omega,by omega,by omega,y⟩
      |true=>
       dsimp only
       rw[if_pos rfl];exact wpS_pure ⟨rfl,l,o,rfl,a1,a2,a4,.inr y⟩
  case post=>
    rintro c t ⟨ht,l,o,rfl,a1,a2,a3,a4⟩;obtain rfl:=ht.symm
    dsimp only
    have le1:hint+1 - min o (hint+1)<=hint - l:=by omega
    have le2:hint - l<=n:=by omega
    have b1:∀i,i < hint+1 - min o (hint+1)->J6 rk left key arr base i=true:=fun i h1=>by
      rcases a4 with a4|a4
      · omega
      · exact W0 u (show i<=hint - o by omega) (by omega) a4
    have b2:∀i,hint - l<=i->i < n->J6 rk left key arr base i=false:=fun i h1 h2=>by
      cases y':J6 rk left key arr base i with
      |false=>rfl
      |true=>rw[W0 u h1 h2 y'] at a3;cases a3
    refine wpS_bind (wpS_mono (wpS_forRange (I:=fun x c t=>t=st/\∃lo hi,c=(none,lo,hi)/\lo<=hi/\hi<=n/\hi - lo<=n - x/\(∀i,i < lo->J6 rk left key arr base i=true)/\(∀i,hi<=i->i < n->J6 rk left key arr base i=false))
      (Q:=fun c t=>t=st/\∃lo hi,c=(none,lo,hi)/\hi<=n/\(∀i,i < hi->J6 rk left key arr base i=true)/\(∀i,hi<=i->i < n->J6 rk left key arr base i=false)) ?stepB ?finB ⟨rfl,_,_,rfl,le1,le2,by omega,b1,b2⟩) ?postB)
    case finB=>
      rintro c t ⟨rfl,lo,hi,rfl,a1,a2,a3,a4,a5⟩;rw[show lo=hi by omega] at a4;exact ⟨rfl,lo,hi,rfl,a2,a4,a5⟩
    case stepB=>
      rintro x c t _ xn ⟨rfl,lo,hi,rfl,a1,a2,a3,a4,a5⟩
      dsimp only
      by_cases z:lo≥hi
      · rw[if_pos z];rw[show lo=hi by omega] at a4;exact wpS_pure ⟨rfl,lo,hi,rfl,a2,a4,a5⟩
      · rw[if_neg z];refine wpS_bind (by0 (lo+(hi - lo)/2) _ (by omega) ?_)
        cases y:J6 rk left key arr base (lo+(hi - lo)/2) with
        |true=>
         dsimp only
         rw[if_pos rfl];exact wpS_pure ⟨rfl,_,_,rfl,by omega,a2,by omega,fun i h1=>W0 u (show i<=lo+(hi - lo)/2 by omega) (by omega) y,a5⟩
        |false=>
         dsimp only
         rw[if_neg (by decide)];refine wpS_pure ⟨rfl,_,_,rfl,by omega,by omega,by omega,a4,fun i h1 h2=> ?_⟩
         cases y':J6 rk left key arr base i with
         |false=>rfl
         |true=>rw[W0 u h1 h2 y'] at y;cases y
    case postB=>
      rintro c t ⟨rfl,lo,hi,rfl,a1,a2,a3⟩;exact wpS_pure (h hi a1 a2 a3)
end
end TS
namespace TS
open PySem PyProof.Rows
section
variable {rk:Keyed->Nat}
def Le (rk:Keyed->Nat)(x y:Keyed):Prop:=rk x<=rk y
section
variable {le:Keyed->Keyed->Prop}
def M4 (le:Keyed->Keyed->Prop)(l:List Keyed):Prop:=l.Pairwise le
structure Mi (le:Keyed->Keyed->Prop)(a b out:List Keyed)(i j:Nat):Prop where
 pm:out.Perm (a.take i++b.take j)
 up:M4 le out
 ba:∀x∈out,∀y∈a.drop i,le x y
 bb:∀x∈out,∀y∈b.drop j,le x y
theorem aa1 {l m:List Keyed}:M4 le (l++m)↔M4 le l/\M4 le m/\∀x∈l,∀y∈m,le x y:=List.pairwise_append
theorem ai8 {l:List Keyed}(h:M4 le l)(i:Nat):M4 le (l.drop i):=List.Pairwise.sublist (List.drop_sublist i l) h
theorem bb2 {l:List Keyed}{i:Nat}{x:Keyed}(h:l[i]? =some x):l.drop i=x::l.drop (i+1):=by
 obtain ⟨hi,e⟩:=eb9.mp h;rw[el5 hi,e]
theorem bm2 {l:List Keyed}{i:Nat}{x:Keyed}(h:l[i]? =some x):l.take (i+1)=l.take i++[x]:=by rw[ez1,h];rfl
theorem ad3 (rf:∀x,le x x){l:List Keyed}(s:M4 le l){i:Nat}{x:Keyed}(h:l[i]? =some x):∀y∈l.drop i,le x y:=fun y hy=>by
 have:=ai8 s i;rw[bb2 h] at this hy
 rcases ee0.mp hy with e|e
 · rw[e];exact rf _
 · exact (ep6.mp this).1 y e
theorem Mi.pushA (rf:∀x,le x x){a b out:List Keyed}{i j:Nat}{x:Keyed}(h:Mi le a b out i j)(sa:M4 le a)(hx:a[i]? =some x)(hb:∀y∈b.drop j,le x y):Mi le a b (out++[x]) (i+1) j:=by
 have da:=bb2 hx
 have mx:x∈a.drop i:=by rw[da];exact ec5
 refine ⟨?_,?_,?_,?_⟩
 · rw[bm2 hx,ed9];refine (h.pm.append_right [x]).trans ?_;rw[ed9];exact List.Perm.append_left _ ek6
 · refine aa1.mpr ⟨h.up,en7 _ _,fun y hy z hz=> ?_⟩;rw[ec9.mp hz];exact h.ba y hy x mx
 · intro y hy z hz
   have hz':z∈a.drop i:=by rw[da];exact ec7 _ hz
   rcases ed0.mp hy with e|e
   · exact h.ba y e z hz'
   · rw[ec9.mp e];exact ad3 rf sa hx z hz'
 · intro y hy z hz
   rcases ed0.mp hy with e|e
   · exact h.bb y e z hz
   · rw[ec9.mp e];exact hb z hz
theorem Mi.pushB (rf:∀x,le x x){a b out:List Keyed}{i j:Nat}{x:Keyed}(h:Mi le a b out i j)(sb:M4 le b)(hx:b[j]? =some x)(ha:∀y∈a.drop i,le x y):Mi le a b (out++[x]) i (j+1):=by
 have db:=bb2 hx
 have mx:x∈b.drop j:=by rw[db];exact ec5
 refine ⟨?_,?_,?_,?_⟩
 · rw[bm2 hx,<-ed9];exact h.pm.append_right [x]
 · refine aa1.mpr ⟨h.up,en7 _ _,fun y hy z hz=> ?_⟩;rw[ec9.mp hz];exact h.bb y hy x mx
 · intro y hy z hz
   rcases ed0.mp hy with e|e
   · exact h.ba y e z hz
   · rw[ec9.mp e];exact ha z hz
 · intro y hy z hz
   have hz':z∈b.drop j:=by rw[db];exact ec7 _ hz
   rcases ed0.mp hy with e|e
   · exact h.bb y e z hz'
   · rw[ec9.mp e];exact ad3 rf sb hx z hz'
theorem by3 {l:List Keyed}{i k:Nat}{x:Keyed}(h:l[i+k]? =some x):(l.take (i+(k+1))).drop i=(l.take (i+k)).drop i++[x]:=by
 have hl:=(eb9.mp h).1;rw[show i+(k+1)=(i+k)+1 by omega,bm2 h,List.drop_append_of_le_length (by rw[ee1];omega)]
theorem Mi.manyA (rf:∀x,le x x){a b out:List Keyed}{i j:Nat}(h:Mi le a b out i j)(sa:M4 le a):∀k,i+k<=a.length->(∀n x,n < k->a[i+n]? =some x->∀y∈b.drop j,le x y)->Mi le a b (out++(a.take (i+k)).drop i) (i+k) j
 |0,_,_=>by rw[ej1,eo2 (by rw[ee1];omega),ee3];exact h
 |k+1,hl,hc=>by
  have e:a[i+k]? =some a[i+k]:=eb8 (by omega);rw[by3 e,<-ed9,show i+(k+1)=i+k+1 by omega];exact (Mi.manyA rf h sa k (by omega) fun n x hn=>hc n x (by omega)).pushA rf sa e (hc k _ (by omega) e)
theorem Mi.manyB (rf:∀x,le x x){a b out:List Keyed}{i j:Nat}(h:Mi le a b out i j)(sb:M4 le b):∀k,j+k<=b.length->(∀n x,n < k->b[j+n]? =some x->∀y∈a.drop i,le x y)->Mi le a b (out++(b.take (j+k)).drop j) i (j+k)
 |0,_,_=>by rw[ej1,eo2 (by rw[ee1];omega),ee3];exact h
 |k+1,hl,hc=>by
  have e:b[j+k]? =some b[j+k]:=eb8 (by omega);rw[by3 e,<-ed9,show j+(k+1)=j+k+1 by omega];exact (Mi.manyB rf h sb k (by omega) fun n x hn=>hc n x (by omega)).pushB rf sb e (hc k _ (by omega) e)
def Mg (le:Keyed->Keyed->Prop)(a b r:List Keyed):Prop:=r.Perm (a++b)/\M4 le r
theorem ay1 (a b out:List Keyed)(i j:Nat)(h:out.Perm (a.take i++b.take j)):(out++a.drop i++b.drop j).Perm (a++b):=by
 have e1:=(h.append_right (a.drop i)).append_right (b.drop j);refine e1.trans ?_
 have e2:((a.take i++b.take j)++a.drop i).Perm (a++b.take j):=by
   rw[ed9];refine (List.Perm.append_left _ ek6).trans ?_;rw[<-ed9,ei8]
 refine (e2.append_right _).trans ?_;rw[ed9,ei8]
theorem Mi.doneB {a b out:List Keyed}{i j:Nat}(h:Mi le a b out i j)(sa:M4 le a)(hj:b.length<=j):Mg le a b (out++a.drop i++b.drop j):=by
 refine ⟨ay1 a b out i j h.pm,?_⟩;rw[eo2 hj,ee3];exact aa1.mpr ⟨h.up,ai8 sa i,h.ba⟩
theorem Mi.doneA {a b out:List Keyed}{i j:Nat}(h:Mi le a b out i j)(sb:M4 le b)(hi:a.length<=i):Mg le a b (out++a.drop i++b.drop j):=by
 refine ⟨ay1 a b out i j h.pm,?_⟩;rw[eo2 hi,ee3];exact aa1.mpr ⟨h.up,ai8 sb j,h.bb⟩
theorem Mi.last {a b out:List Keyed}{i j:Nat}(h:Mi le a b out i j)(sa:M4 le a)(sb:M4 le b)(top:∀x∈b.drop j,∀y∈a.drop i,le x y):Mg le a b (out++b.drop j++a.drop i):=by
 constructor
 · refine List.Perm.trans ?_ (ay1 a b out i j h.pm);rw[ed9,ed9];exact List.Perm.append_left _ ek6
 · rw[ed9];refine aa1.mpr ⟨h.up,aa1.mpr ⟨ai8 sb j,ai8 sa i,top⟩,fun x hx y hy=> ?_⟩
   rcases ed0.mp hy with e|e
   · exact h.bb x hx y e
   · exact h.ba x hx y e
end
theorem dw4 {xs:Array Keyed}(u:Up rk xs 0 xs.size):M4 (Le rk) xs.toList:=by
 refine ee7.mpr fun i j hi hj hij=> ?_
 have:=u i j (ed7 _) (by omega) (by simpa using hj);rw[L9 (p:=xs.toList[i]) (by simp),L9 (p:=xs.toList[j]) (by simp)] at this;exact this
theorem al3 {xs:Array Keyed}(h:M4 (Le rk) xs.toList):Up rk xs 0 xs.size:=fun i j _ hij hj=>by
 rcases ev5 hij with z|z
 · have:=ee7.mp h i j (by simp;omega) (by simpa using hj) z;rw[L9 (i:=i) (p:=xs.toList[i]'(by simp;omega)) (by simp),L9 (i:=j) (p:=xs.toList[j]'(by simpa using hj)) (by simp)];exact this
 · rw[z];exact ec0 _
end
end TS
namespace TS
open PySem PyProof.Rows
def mLo:Array Keyed->Array Keyed->StateT SortSt Sem (Array Keyed):=sortPriv%PySem.Builtin.mergeLo
section
variable {prog:Program} {w:World} {A:Around} {E:Value->Shared->Prop} {s:Shared}
variable {rk:Keyed->Nat} {a0:Array Keyed} {κ:SortKind}
structure N7 (st t:SortSt):Prop where
 arr:arrOf t=arrOf st
 pend:pendingOf t=pendingOf st
 kind:kindOf t=kindOf st
 ok:failedOf t=failedOf st
theorem N7.refl (st:SortSt):N7 st st:=⟨rfl,rfl,rfl,rfl⟩
def MQ (rk:Keyed->Nat)(a b:Array Keyed)(st:SortSt)(r:Array Keyed)(t:SortSt):Prop:=Mg (Le rk) a.toList b.toList r.toList/\N7 st t
theorem hv {β γ:Type}{F:γ}{K:γ->StateT SortSt Sem β}{Q:β->SortSt->Prop}{st:SortSt}(h:wpS (model prog w) A E s (K F) Q st):wpS (model prog w) A E s (have x:=F;K x) Q st:=h
theorem J1 {β:Type}{c:Prop}[Decidable c]{m n:StateT SortSt Sem β}{Q:β->SortSt->Prop}{st:SortSt}(h1:c->wpS (model prog w) A E s m Q st)(h2:¬c->wpS (model prog w) A E s n Q st):wpS (model prog w) A E s (if c then m else n) Q st:=by
 split
 · exact h1 ‹_›
 · exact h2 ‹_›
theorem W1 {a b:Nat}(h:(a==b)=true):a=b:=by simpa using h
theorem Y1 {a b:Nat}(h:¬(a==b)=true):¬a=b:=by simpa using h
theorem ad4 (xs:Array Keyed)(i:Nat):(xs.extract i).toList=xs.toList.drop i:=by rw[Array.toList_extract,ew7,el3 (by simp)]
theorem X3 (xs:Array Keyed)(i j:Nat):(xs.extract i j).toList=(xs.toList.take j).drop i:=by rw[Array.toList_extract,ew7,List.drop_take]
theorem N5 {xs:Array Keyed}{i:Nat}{x:Keyed}(h:xs[i]? =some x):xs.toList[i]? =some x:=by rw[<-h];simp
theorem do6 {st:SortSt}{g:Nat}{Q:Unit->SortSt->Prop}(h:Q () (SortSt.mk' (kindOf st) (arrOf st) (pendingOf st) g (failedOf st))):wpS (model prog w) A E s ((sortPriv%PySem.Builtin.setMinGallop) g) Q st:=wpS_modify h
theorem N7.gal {st t:SortSt}(h:N7 st t)(g:Nat):N7 st (SortSt.mk' (kindOf t) (arrOf t) (pendingOf t) g (failedOf t)):=⟨h.arr,h.pend,h.kind,h.ok⟩
theorem cz2 {st0 st:SortSt}{g:Nat}{Q:Unit->SortSt->Prop}(l:N7 st0 st)(h:∀t,N7 st0 t->Q () t):wpS (model prog w) A E s ((sortPriv%PySem.Builtin.setMinGallop) g) Q st:=do6 (h _ (l.gal g))
theorem do7 {st:SortSt}{a b:Array Keyed}(C:Cm prog w A s κ rk a0)(hk:kindOf st=κ)(ia:In0 a0 a)(ib:In0 a0 b)(a1:1<=a.size)(b1:1<=b.size)(sa:M4 (Le rk) a.toList)(sb:M4 (Le rk) b.toList)
   (first:∀x,b[0]? =some x->∀y∈a.toList,Le rk x y) (last:∀x∈b.toList,∀y,a[a.size - 1]? =some y->Le rk x y):wpS (model prog w) A E s (mLo a b) (MQ rk a b st) st:=by
 have la:a.toList.length=a.size:=ef0;have lb:b.toList.length=b.size:=ef0;have ua:=al3 sa;have ub:=al3 sb
 have doneB:∀out i j t,Mi (Le rk) a.toList b.toList (ei9 out) i j->N7 st t->b.size<=j->MQ rk a b st (out++a.extract i++b.extract j) t:=fun out i j t m l hj=>by
   refine ⟨?_,l⟩;rw[eh5,eh5,ad4,ad4];exact m.doneB sa (by omega)
 have doneA:∀out i j t,Mi (Le rk) a.toList b.toList (ei9 out) i j->N7 st t->a.size<=i->MQ rk a b st (out++a.extract i++b.extract j) t:=fun out i j t m l hi=>by
   refine ⟨?_,l⟩;rw[eh5,eh5,ad4,ad4];exact m.doneA sb (by omega)
 have lastA:∀out i j t,Mi (Le rk) a.toList b.toList (ei9 out) i j->N7 st t->i+1=a.size->MQ rk a b st (out++b.extract j++a.extract i) t:=fun out i j t m l hi=>by
   refine ⟨?_,l⟩;rw[eh5,eh5,ad4,ad4]
   refine m.last sa sb fun x hx y hy=>last x (ep1 hx) y ?_
   have e:a.toList[i]? =some a.toList[i]:=eb8 (by omega);rw[bb2 e,eo2 (by omega)] at hy;rw[ec9.mp hy,show a.size - 1=i by omega,<-eh6];exact e
 have stepB:∀out i j x y,Mi (Le rk) a.toList b.toList (ei9 out) i j->a[i]? =some x->b[j]? =some y->rk y<=rk x->Mi (Le rk) a.toList b.toList (ei9 (out.push y)) i (j+1):=fun out i j x y m hx hy le=>by
   rw[ep0]
   exact m.pushB (fun _=>ec0 _) sb (N5 hy) fun z hz=>ed3 le (ad3 (fun _=>ec0 _) sa (N5 hx) z hz)
 have stepA:∀out i j x y,Mi (Le rk) a.toList b.toList (ei9 out) i j->a[i]? =some x->b[j]? =some y->rk x<=rk y->Mi (Le rk) a.toList b.toList (ei9 (out.push x)) (i+1) j:=fun out i j x y m hx hy le=>by
   rw[ep0]
   exact m.pushA (fun _=>ec0 _) sa (N5 hx) fun z hz=>ed3 le (ad3 (fun _=>ec0 _) sb (N5 hy) z hz)
 refine wpS_bind (wpS_lift (wpAny_rule ⟨rfl,?_⟩));obtain ⟨b0,eb0,mb0⟩:=ib.at (show 0 < b.size by omega);refine wpS_bind (G4 eb0 ?_)
 have m0:Mi (Le rk) a.toList b.toList (ei9 #[b0]) 0 1:=by
   have e:b.toList[0]? =some b0:=N5 eb0;have n:Mi (Le rk) a.toList b.toList [] 0 0:=⟨List.Perm.refl _,List.Pairwise.nil,(fun x h=>by cases h),(fun x h=>by cases h)⟩
   exact n.pushB (fun _=>ec0 _) sb e fun y hy=>first b0 eb0 y hy
 refine hv (hv (hv ?_))
 by_cases z1:1=b.size
 · rw[if_pos (by simpa using z1)];exact wpS_pure (doneB _ _ _ _ m0 (N7.refl st) (by omega))
 rw[if_neg (by simpa using z1)]
 by_cases z2:0+1=a.size
 · rw[if_pos (by simpa using z2)];exact wpS_pure (lastA _ _ _ _ m0 (N7.refl st) z2)
 rw[if_neg (by simpa using z2)];refine wpS_bind (wpS_get ?_)
 refine wpS_bind (wpS_mono (wpS_forRange (I:=fun x c t=>∃out i j g,c=(none,out,i,j,g)/\Mi (Le rk) a.toList b.toList (ei9 out) i j/\i+1 < a.size/\j < b.size/\x<=i+j/\N7 st t)
   (Q:=fun c t=>∃r,c.1=some r/\MQ rk a b st r t) ?step ?fin ⟨_,_,_,_,rfl,m0,by omega,by omega,by omega,N7.refl st⟩) ?post)
 case post=>
   rintro c t ⟨r,hr,q⟩;obtain ⟨c1,c2⟩:=c;cases hr;exact wpS_pure q
 case fin=>
   rintro c t ⟨out,i,j,g,rfl,m,h1,h2,h3,l⟩;omega
 case step=>
   rintro x c t _ xn ⟨out,i,j,g,rfl,m,h1,h2,h3,l⟩
   refine wpS_bind (wpS_mono (wpS_forRange (I:=fun y c t'=>∃out' i' j' p q,c=(none,out',i',j',p,q)/\t'=t/\Mi (Le rk) a.toList b.toList (ei9 out') i' j'/\i'+1 < a.size/\j' < b.size/\i'+j'=i+j+y)
     (Q:=fun c t'=>(∃r,c.1=some r/\MQ rk a b st r t')\/(∃out' i' j' p q,c=(none,out',i',j',p,q)/\t'=t/\Mi (Le rk) a.toList b.toList (ei9 out') i' j'/\i'+1 < a.size/\j' < b.size/\x+1<=i'+j')) ?step2 ?fin2 ⟨_,_,_,_,_,rfl,rfl,m,h1,h2,rfl⟩) ?post2)
   case fin2=>
     rintro c t' ⟨out',i',j',p,q,rfl,rfl,m',k1,k2,k3⟩;omega
   case step2=>
     rintro y c t' _ yn ⟨out',i',j',p,q,rfl,rfl,m',k1,k2,k3⟩;obtain ⟨u,eu,mu⟩:=ia.at (show i' < a.size by omega);obtain ⟨v,ev,mv⟩:=ib.at k2;refine wpS_bind (G4 ev (wpS_bind (G4 eu (wpS_bind (bi7 C (l.kind.trans hk) mv mu ?_)))))
     by_cases d:rk v < rk u
     · rw[decide_eq_true d]
       dsimp only
       rw[if_pos rfl];have m2:=stepB out' i' j' u v m' eu ev (ei1 d);refine wpS_bind (G4 ev ?_)
       by_cases z:j'+1=b.size
       · rw[if_pos (by simpa using z)];exact wpS_pure (.inl ⟨_,rfl,doneB _ _ _ _ m2 l (by omega)⟩)
       · rw[if_neg (by simpa using z)]
         split
         · exact wpS_pure (.inr ⟨_,_,_,_,_,rfl,rfl,m2,k1,by omega,by omega⟩)
         · exact wpS_pure ⟨_,_,_,_,_,rfl,rfl,m2,k1,by omega,by omega⟩
     · rw[decide_eq_false d]
       dsimp only
       rw[if_neg (by decide)];have m2:=stepA out' i' j' u v m' eu ev (by omega);refine wpS_bind (G4 eu ?_)
       by_cases z:i'+1+1=a.size
       · rw[if_pos (by simpa using z)];exact wpS_pure (.inl ⟨_,rfl,lastA _ _ _ _ m2 l z⟩)
       · rw[if_neg (by simpa using z)]
         split
         · exact wpS_pure (.inr ⟨_,_,_,_,_,rfl,rfl,m2,by omega,k2,by omega⟩)
         · exact wpS_pure ⟨_,_,_,_,_,rfl,rfl,m2,by omega,k2,by omega⟩
   case post2=>
     rintro c t' (⟨r,hr,q⟩|⟨out',i',j',p,q,rfl,rfl,m',k1,k2,k3⟩)
     · obtain ⟨c1,c2⟩:=c;cases hr;exact wpS_pure ⟨r,rfl,q⟩
     · refine wpS_bind (wpS_lift (wpAny_rule ⟨rfl,?_⟩))
       refine wpS_bind (wpS_mono (wpS_forRange (I:=fun y c t2=>∃out2 i2 j2 g2 p q,c=(none,out2,i2,j2,g2,p,q)/\N7 st t2/\Mi (Le rk) a.toList b.toList (ei9 out2) i2 j2/\i2+1 < a.size/\j2 < b.size/\x+1<=i2+j2)
         (Q:=fun c t2=>(∃r,c.1=some r/\MQ rk a b st r t2)\/(∃out2 i2 j2 g2 p q,c=(none,out2,i2,j2,g2,p,q)/\N7 st t2/\Mi (Le rk) a.toList b.toList (ei9 out2) i2 j2/\i2+1 < a.size/\j2 < b.size/\x+1<=i2+j2)) ?step3 ?fin3 ⟨_,_,_,_,_,_,rfl,l,m',k1,k2,k3⟩) ?post3)
       case fin3=>
         rintro c t2 h;exact .inr h
       case post3=>
         rintro c t2 (⟨r,hr,q⟩|⟨out2,i2,j2,g2,p,q,rfl,l2,m2,n1,n2,n3⟩)
         · obtain ⟨c1,c2⟩:=c;cases hr;exact wpS_pure ⟨r,rfl,q⟩
         · refine wpS_bind (do6 ?_);exact wpS_pure ⟨_,_,_,_,rfl,m2,n1,n2,n3,l2.gal _⟩
       case step3=>
         rintro y c t2 _ yn ⟨out2,i2,j2,g2,p,q,rfl,l2,m2,n1,n2,n3⟩;obtain ⟨v,ev,mv⟩:=ib.at n2;refine J1 (fun _=> ?_) (fun _=> ?_)
         all_goals
           refine wpS_bind (cz2 l2 fun t3 l3=> ?_);refine wpS_bind (G4 ev ?_);refine wpS_bind (ap1 (base:=i2) (n:=a.size - i2) (hint:=0) C (l3.kind.trans hk) ia mv (show i2+(a.size - i2)<=a.size by omega) (by omega) (fun x y h1 h2 h3=>ua x y (by omega) h2 (by omega)) fun k kn ka kb=> ?_)
           have mA:∀k',k'<=k->Mi (Le rk) a.toList b.toList (ei9 (out2++a.extract i2 (i2+k'))) (i2+k') j2:=fun k' hk'=>by
             rw[eh5,X3]
             refine m2.manyA (fun _=>ec0 _) sa k' (by omega) fun n x hn hx z hz=> ?_
             have h:=ka n (by omega);unfold J6 at h;rw[if_neg (by decide),L9 (p:=x) (by rw[<-eh6];exact hx)] at h
             have hle:rk x<=rk v:=by simpa using h
             exact ed3 hle (ad3 (fun _=>ec0 _) sb (N5 ev) z hz)
           have gB:i2+k < a.size->rk v < R rk a (i2+k):=fun h=>by
             have h:=kb k (ec0 _) (by omega);unfold J6 at h;rw[if_neg (by decide)] at h
             simpa using h
           have m3:=mA k (ec0 _);refine J1 (fun kz=> ?_) (fun kz=> ?_);refine J1 (fun z=>wpS_pure (.inl ⟨_,rfl,lastA _ _ _ _ m3 l3 (W1 z)⟩)) (fun z1=> ?_);refine J1 (fun z=>wpS_pure (.inl ⟨_,rfl,doneA _ _ _ _ m3 l3 (eq8 (W1 z).symm)⟩)) (fun z2=> ?_);have z1:¬i2+k+1=a.size:=Y1 z1;have z2:¬i2+k=a.size:=Y1 z2
           have f1:i2+k+1 < a.size:=by omega
           have f2:x+1<=i2+k+j2:=by omega
           have f3:=gB (by omega);generalize out2++a.extract i2 (i2+k)=out3 at m3 ⊢;generalize i2+k=i3 at m3 f1 f2 f3 ⊢
           rotate_left
           have k0:k=0:=by omega
           subst k0
           have e0:out2++a.extract i2 (i2+0)=out2:=by simp<;>omega
           rw[e0,ej1] at m3
           have f1:i2+1 < a.size:=by omega
           have f2:x+1<=i2+j2:=by omega
           have f3:=gB (by omega);rw[ej1] at f3;clear e0;generalize out2=out3 at m3 ⊢;generalize i2=i3 at m3 f1 f2 f3 ⊢
           rotate_left
           all_goals
             obtain ⟨u3,eu3,mu3⟩:=ia.at (show i3 < a.size by omega);rw[L9 eu3] at f3;refine wpS_bind (G4 ev ?_);have m4:=stepB out3 i3 j2 u3 v m3 eu3 ev (ei1 f3);refine J1 (fun z=>wpS_pure (.inl ⟨_,rfl,doneB _ _ _ _ m4 l3 (eq8 (W1 z).symm)⟩)) (fun z3=> ?_);have z3:¬j2+1=b.size:=Y1 z3;refine wpS_bind (G4 eu3 ?_);refine wpS_bind (ap1 (base:=j2+1) (n:=b.size - (j2+1)) (hint:=0) C (l3.kind.trans hk) ib mu3 (show j2+1+(b.size - (j2+1))<=b.size by omega) (by omega) (fun x y h1 h2 h3=>ub x y (by omega) h2 (by omega)) fun k' kn' ka' kb'=> ?_)
             have m5:Mi (Le rk) a.toList b.toList (ei9 (out3.push v++b.extract (j2+1) (j2+1+k'))) i3 (j2+1+k'):=by
               rw[eh5,X3]
               refine m4.manyB (fun _=>ec0 _) sb k' (by omega) fun n x hn hx z hz=> ?_
               have h:=ka' n hn;unfold J6 at h;rw[if_pos rfl,L9 (p:=x) (by rw[<-eh6];exact hx)] at h
               have hle:rk x < rk u3:=by simpa using h
               exact ed3 (ei1 hle) (ad3 (fun _=>ec0 _) sa (N5 eu3) z hz)
             have gA:j2+1+k' < b.size->rk u3<=R rk b (j2+1+k'):=fun h=>by
               have h:=kb' k' (ec0 _) (by omega);unfold J6 at h;rw[if_pos rfl] at h
               simpa using h
             refine J1 (fun kz'=> ?_) (fun kz'=> ?_);refine J1 (fun z=>wpS_pure (.inl ⟨_,rfl,doneB _ _ _ _ m5 l3 (eq8 (W1 z).symm)⟩)) (fun z4=> ?_);have z4:¬j2+1+k'=b.size:=Y1 z4
             have f4:j2+1+k' < b.size:=by omega
             have f5:x+1<=i3+(j2+1+k'):=by omega
             have f6:=gA f4;generalize out3.push v++b.extract (j2+1) (j2+1+k')=out4 at m5 ⊢;generalize j2+1+k'=j4 at m5 f4 f5 f6 ⊢
             rotate_left
             have k0:k'=0:=by omega
             subst k0
             have e0:out3.push v++b.extract (j2+1) (j2+1+0)=out3.push v:=by simp<;>omega
             rw[e0,ej1] at m5
             have f4:j2+1 < b.size:=by omega
             have f5:x+1<=i3+(j2+1):=by omega
             have f6:=gA (by omega);rw[ej1] at f6;clear e0;generalize out3.push v=out4 at m5 ⊢;generalize j2+1=j4 at m5 f4 f5 f6 ⊢
             rotate_left
             all_goals
               obtain ⟨v4,ev4,mv4⟩:=ib.at f4;rw[L9 ev4] at f6;have m6:=stepA out4 i3 j4 u3 v4 m5 eu3 ev4 f6;refine wpS_bind (G4 eu3 ?_);refine J1 (fun z=>wpS_pure (.inl ⟨_,rfl,lastA _ _ _ _ m6 l3 (W1 z)⟩)) (fun z5=> ?_);have z5:¬i3+1+1=a.size:=Y1 z5;refine J1 (fun _=> ?_) (fun _=> ?_)
               · exact wpS_pure (.inr ⟨out4.push u3,i3+1,j4,_,_,_,rfl,l3,m6,by omega,f4,by omega⟩)
               · exact wpS_pure ⟨out4.push u3,i3+1,j4,_,_,_,rfl,l3,m6,by omega,f4,by omega⟩
end
end TS
namespace TS
open PySem PyProof.Rows
def mHi:Array Keyed->Array Keyed->StateT SortSt Sem (Array Keyed):=sortPriv%PySem.Builtin.mergeHi
def Ge (rk:Keyed->Nat)(x y:Keyed):Prop:=rk y<=rk x
theorem aa2 {rk:Keyed->Nat}{l:List Keyed}(h:M4 (Le rk) l):M4 (Ge rk) l.reverse:=et8.mpr h
theorem cs6 {rk:Keyed->Nat}{a b r:List Keyed}(h:Mg (Ge rk) b.reverse a.reverse r.reverse):Mg (Le rk) a b r:=by
 obtain ⟨p,u⟩:=h;refine ⟨?_,et8.mp u⟩
 have e:b.reverse++a.reverse=(a++b).reverse:=by rw[ep4]
 rw[e] at p;exact (et1 r).symm.trans (p.trans (et1 _))
theorem P0 {l:List Keyed}{n:Nat}(h:n<=l.length):l.reverse.drop (l.length - n)=(l.take n).reverse:=by
 rw[List.drop_reverse];congr 2;omega
theorem cf8 {l:List Keyed}{n:Nat}{x:Keyed}(h1:1<=n)(h:l[n - 1]? =some x):l.reverse[l.length - n]? =some x:=by
 have hl:=(eb9.mp h).1;rw[eu2 (by omega),<-h]
 congr 1
 omega
theorem cf9 {l:List Keyed}{m n:Nat}(h1:m<=n)(h:n<=l.length):(l.reverse.take (l.length - n+(n - m))).drop (l.length - n)=((l.take n).drop m).reverse:=by
 rw[List.drop_take,P0 h,Nat.add_sub_cancel_left,List.take_reverse,ee1]
 congr 2
 omega
theorem ap2 {rk:Keyed->Nat}{l:List Keyed}{n:Nat}{x:Keyed}(s:M4 (Le rk) l)(h1:1<=n)(h:l[n - 1]? =some x):∀y∈l.take n,rk y<=rk x:=fun y hy=>by
 obtain ⟨hl,e⟩:=eb9.mp h;obtain ⟨i,hi⟩:=ef8.mp hy;have hil:=(eb9.mp hi).1;rw[ee1] at hil;rw[ei7 (by omega),eb8 (by omega)] at hi;have ey:=Option.some.inj hi
 rcases ev5 (show i<=n - 1 by omega) with z|z
 · have:=ee7.mp s i (n - 1) (by omega) hl z;rw[ey,e] at this;exact this
 · subst z;rw[<-ey,e];exact ec0 _
section
variable {prog:Program} {w:World} {A:Around} {E:Value->Shared->Prop} {s:Shared}
variable {rk:Keyed->Nat} {a0:Array Keyed} {κ:SortKind}
def Mh (rk:Keyed->Nat)(a b out:Array Keyed)(na nb:Nat):Prop:=na<=a.size/\nb<=b.size/\Mi (Ge rk) b.toList.reverse a.toList.reverse out.toList (b.size - nb) (a.size - na)
theorem Mh.pushB {a b out:Array Keyed}{na nb:Nat}{x:Keyed}(h:Mh rk a b out na nb)(sb:M4 (Le rk) b.toList)(n1:1<=nb)(hx:b[nb - 1]? =some x)(ha:∀y∈a.toList.take na,rk y<=rk x):Mh rk a b (out.push x) na (nb - 1):=by
 obtain ⟨h1,h2,m⟩:=h;refine ⟨h1,by omega,?_⟩;have lb:b.toList.length=b.size:=ef0;have la:a.toList.length=a.size:=ef0;rw[ep0,show b.size - (nb - 1)=b.size - nb+1 by omega]
 refine m.pushA (fun _=>ec0 _) (aa2 sb) ?_ fun y hy=>ha y ?_
 · rw[<-lb];exact cf8 n1 (N5 hx)
 · rw[<-la,P0 (by omega)] at hy;exact eo3.mp hy
theorem Mh.pushA {a b out:Array Keyed}{na nb:Nat}{x:Keyed}(h:Mh rk a b out na nb)(sa:M4 (Le rk) a.toList)(n1:1<=na)(hx:a[na - 1]? =some x)(hb:∀y∈b.toList.take nb,rk y<=rk x):Mh rk a b (out.push x) (na - 1) nb:=by
 obtain ⟨h1,h2,m⟩:=h;refine ⟨by omega,h2,?_⟩;have lb:b.toList.length=b.size:=ef0;have la:a.toList.length=a.size:=ef0;rw[ep0,show a.size - (na - 1)=a.size - na+1 by omega]
 refine m.pushB (fun _=>ec0 _) (aa2 sa) ?_ fun y hy=>hb y ?_
 · rw[<-la];exact cf8 n1 (N5 hx)
 · rw[<-lb,P0 (by omega)] at hy;exact eo3.mp hy
theorem Mh.manyA {a b out:Array Keyed}{na nb m:Nat}(h:Mh rk a b out na nb)(sa:M4 (Le rk) a.toList)(hm:m<=na)(hc:∀n x,m<=n->n < na->a[n]? =some x->∀y∈b.toList.take nb,rk y<=rk x):Mh rk a b (out++(a.extract m na).reverse) m nb:=by
 obtain ⟨h1,h2,mi⟩:=h;refine ⟨by omega,h2,?_⟩;have lb:b.toList.length=b.size:=ef0;have la:a.toList.length=a.size:=ef0
 have:=mi.manyB (fun _=>ec0 _) (aa2 sa) (na - m) (by rw[eo0];omega) fun n x hn hx y hy=>hc (na - 1 - n) x (by omega) (by omega) ?_ y ?_
 · rw[<-la,cf9 hm (by omega),<-X3,la,show a.size - na+(na - m)=a.size - m by omega] at this;rw[eh5,er2];exact this
 · rw[eu2 (by omega)] at hx;rw[<-eh6,<-hx]
   congr 1
   omega
 · rw[<-lb,P0 (by omega)] at hy;exact eo3.mp hy
theorem Mh.manyB {a b out:Array Keyed}{na nb m:Nat}(h:Mh rk a b out na nb)(sb:M4 (Le rk) b.toList)(hm:m<=nb)(hc:∀n x,m<=n->n < nb->b[n]? =some x->∀y∈a.toList.take na,rk y<=rk x):Mh rk a b (out++(b.extract m nb).reverse) na m:=by
 obtain ⟨h1,h2,mi⟩:=h;refine ⟨h1,by omega,?_⟩;have lb:b.toList.length=b.size:=ef0;have la:a.toList.length=a.size:=ef0
 have:=mi.manyA (fun _=>ec0 _) (aa2 sb) (nb - m) (by rw[eo0];omega) fun n x hn hx y hy=>hc (nb - 1 - n) x (by omega) (by omega) ?_ y ?_
 · rw[<-lb,cf9 hm (by omega),<-X3,lb,show b.size - nb+(nb - m)=b.size - m by omega] at this;rw[eh5,er2];exact this
 · rw[eu2 (by omega)] at hx;rw[<-eh6,<-hx]
   congr 1
   omega
 · rw[<-la,P0 (by omega)] at hy;exact eo3.mp hy
theorem as6 (xs:Array Keyed)(j:Nat):(xs.extract 0 j).toList=xs.toList.take j:=by rw[X3,ez0]
theorem Mh.done {a b out:Array Keyed}{na nb:Nat}(h:Mh rk a b out na nb)(sa:M4 (Le rk) a.toList)(sb:M4 (Le rk) b.toList)(z:na=0\/nb=0):Mg (Le rk) a.toList b.toList (a.extract 0 na++b.extract 0 nb++out.reverse).toList:=by
 obtain ⟨h1,h2,m⟩:=h;have lb:b.toList.length=b.size:=ef0;have la:a.toList.length=a.size:=ef0;refine cs6 ?_
 have e:(a.extract 0 na++b.extract 0 nb++out.reverse).toList.reverse=out.toList++b.toList.reverse.drop (b.size - nb)++a.toList.reverse.drop (a.size - na):=by
   rw[eh5,eh5,er2,as6,as6,ep4,ep4,er3,<-la,<-lb,P0 (by omega),P0 (by omega),ed9]
 rw[e]
 rcases z with z|z
 · exact m.doneB (aa2 sb) (by rw[eo0];omega)
 · exact m.doneA (aa2 sa) (by rw[eo0];omega)
theorem Mh.first {a b out:Array Keyed}{na nb:Nat}(h:Mh rk a b out na nb)(sa:M4 (Le rk) a.toList)(sb:M4 (Le rk) b.toList)(lo:∀x∈a.toList.take na,∀y∈b.toList.take nb,rk y<=rk x):Mg (Le rk) a.toList b.toList (b.extract 0 nb++a.extract 0 na++out.reverse).toList:=by
 obtain ⟨h1,h2,m⟩:=h;have lb:b.toList.length=b.size:=ef0;have la:a.toList.length=a.size:=ef0;refine cs6 ?_
 have e:(b.extract 0 nb++a.extract 0 na++out.reverse).toList.reverse=out.toList++a.toList.reverse.drop (a.size - na)++b.toList.reverse.drop (b.size - nb):=by
   rw[eh5,eh5,er2,as6,as6,ep4,ep4,er3,<-la,<-lb,P0 (by omega),P0 (by omega),ed9]
 rw[e]
 refine m.last (aa2 sb) (aa2 sa) fun x hx y hy=> ?_
 rw[<-la,P0 (by omega)] at hx;rw[<-lb,P0 (by omega)] at hy;exact lo x (eo3.mp hx) y (eo3.mp hy)
theorem do8 {st:SortSt}{a b:Array Keyed}(C:Cm prog w A s κ rk a0)(hk:kindOf st=κ)(ia:In0 a0 a)(ib:In0 a0 b)(a1:1<=a.size)(b1:1<=b.size)(sa:M4 (Le rk) a.toList)(sb:M4 (Le rk) b.toList)
   (first:∀x,b[0]? =some x->∀y∈a.toList,Le rk x y) (last:∀x∈b.toList,∀y,a[a.size - 1]? =some y->Le rk x y):wpS (model prog w) A E s (mHi a b) (MQ rk a b st) st:=by
 have la:a.toList.length=a.size:=ef0;have lb:b.toList.length=b.size:=ef0;have ua:=al3 sa;have ub:=al3 sb;refine wpS_bind (wpS_lift (wpAny_rule ⟨rfl,?_⟩));obtain ⟨x0,ex0,mx0⟩:=ia.at (show a.size - 1 < a.size by omega);refine wpS_bind (G4 ex0 ?_)
 have doneM:∀out na nb t,Mh rk a b out na nb->N7 st t->na=0\/nb=0->MQ rk a b st (a.extract 0 na++b.extract 0 nb++Array.reverse out) t:=fun out na nb t m l z=>⟨m.done sa sb z,l⟩
 have firstM:∀out na nb t,Mh rk a b out na nb->N7 st t->nb=1->MQ rk a b st (b.extract 0 nb++a.extract 0 na++Array.reverse out) t:=fun out na nb t m l z=>by
   refine ⟨m.first sa sb fun x hx y hy=> ?_,l⟩;subst z;obtain ⟨b0,eb0,mb0⟩:=ib.at (show 0 < b.size by omega);have:=ap2 sb (ec0 1) (N5 eb0) y hy;exact ed3 this (first b0 eb0 x (ei5 hx))
 have stepA:∀out na nb x y,Mh rk a b out na nb->1<=na->1<=nb->a[na - 1]? =some x->b[nb - 1]? =some y->rk y<=rk x->Mh rk a b (out.push x) (na - 1) nb:=fun out na nb x y m h1 h2 hx hy le=>
   m.pushA sa h1 hx fun z hz=>ed3 (ap2 sb h2 (N5 hy) z hz) le
 have stepB:∀out na nb x y,Mh rk a b out na nb->1<=na->1<=nb->a[na - 1]? =some x->b[nb - 1]? =some y->rk x<=rk y->Mh rk a b (out.push y) na (nb - 1):=fun out na nb x y m h1 h2 hx hy le=>
   m.pushB sb h2 hy fun z hz=>ed3 (ap2 sa h1 (N5 hx) z hz) le
 have m0:Mh rk a b #[x0] (a.size - 1) b.size:=by
   have n:Mh rk a b #[] a.size b.size:=⟨ec0 _,ec0 _,by rw[em4,em4];exact ⟨List.Perm.refl _,List.Pairwise.nil,(fun x h=>by cases h),(fun x h=>by cases h)⟩⟩
   exact n.pushA sa a1 ex0 fun y hy=>last y (ei5 hy) x0 ex0
 refine J1 (fun z=>wpS_pure (doneM _ _ _ _ m0 (N7.refl st) (.inl (W1 z)))) (fun z1=> ?_);have z1:¬a.size - 1=0:=Y1 z1;refine J1 (fun z=>wpS_pure (firstM _ _ _ _ m0 (N7.refl st) (W1 z))) (fun z2=> ?_);have z2:¬b.size=1:=Y1 z2;refine wpS_bind (wpS_get ?_)
 refine wpS_bind (wpS_mono (wpS_forRange (I:=fun x c t=>∃na nb out g,c=(none,na,nb,out,g)/\Mh rk a b out na nb/\1<=na/\2<=nb/\x+na+nb<=a.size+b.size/\N7 st t)
   (Q:=fun c t=>∃r,c.1=some r/\MQ rk a b st r t) ?step ?fin ⟨_,_,_,_,rfl,m0,by omega,by omega,by omega,N7.refl st⟩) ?post)
 case post=>
   rintro c t ⟨r,hr,q⟩;obtain ⟨c1,c2⟩:=c;cases hr;exact wpS_pure q
 case fin=>
   rintro c t ⟨na,nb,out,g,rfl,m,h1,h2,h3,l⟩;omega
 case step=>
   rintro x c t _ xn ⟨na,nb,out,g,rfl,m,h1,h2,h3,l⟩
   refine wpS_bind (wpS_mono (wpS_forRange (I:=fun y c t'=>∃na' nb' out' p q,c=(none,na',nb',out',p,q)/\t'=t/\Mh rk a b out' na' nb'/\1<=na'/\2<=nb'/\na'+nb'+y=na+nb)
     (Q:=fun c t'=>(∃r,c.1=some r/\MQ rk a b st r t')\/(∃na' nb' out' p q,c=(none,na',nb',out',p,q)/\t'=t/\Mh rk a b out' na' nb'/\1<=na'/\2<=nb'/\x+1+na'+nb'<=a.size+b.size)) ?step2 ?fin2 ⟨_,_,_,_,_,rfl,rfl,m,h1,h2,rfl⟩) ?post2)
   case fin2=>
     rintro c t' ⟨na',nb',out',p,q,rfl,rfl,m',k1,k2,k3⟩;omega
   case step2=>
     rintro y c t' _ yn ⟨na',nb',out',p,q,rfl,rfl,m',k1,k2,k3⟩;obtain ⟨u,eu,mu⟩:=ia.at (show na' - 1 < a.size by have:=m'.1;omega);obtain ⟨v,ev,mv⟩:=ib.at (show nb' - 1 < b.size by have:=m'.2.1;omega);refine wpS_bind (G4 ev (wpS_bind (G4 eu (wpS_bind (bi7 C (l.kind.trans hk) mv mu ?_)))))
     by_cases d:rk v < rk u
     · rw[decide_eq_true d];refine J1 (fun _=> ?_) (fun h=>absurd rfl h);have m2:=stepA out' na' nb' u v m' k1 (by omega) eu ev (ei1 d);refine wpS_bind (G4 eu ?_);refine J1 (fun z=>wpS_pure (.inl ⟨_,rfl,doneM _ _ _ _ m2 l (.inl (W1 z))⟩)) (fun z=> ?_);have z:¬na' - 1=0:=Y1 z;refine J1 (fun _=> ?_) (fun _=> ?_)
       · exact wpS_pure (.inr ⟨na' - 1,nb',out'.push u,_,_,rfl,rfl,m2,by omega,k2,by omega⟩)
       · exact wpS_pure ⟨na' - 1,nb',out'.push u,_,_,rfl,rfl,m2,by omega,k2,by omega⟩
     · rw[decide_eq_false d];refine J1 (fun h=>absurd h (by decide)) (fun _=> ?_);have m2:=stepB out' na' nb' u v m' k1 (by omega) eu ev (by omega);refine wpS_bind (G4 ev ?_);refine J1 (fun z=>wpS_pure (.inl ⟨_,rfl,firstM _ _ _ _ m2 l (W1 z)⟩)) (fun z=> ?_);have z:¬nb' - 1=1:=Y1 z;refine J1 (fun _=> ?_) (fun _=> ?_)
       · exact wpS_pure (.inr ⟨na',nb' - 1,out'.push v,_,_,rfl,rfl,m2,k1,by omega,by omega⟩)
       · exact wpS_pure ⟨na',nb' - 1,out'.push v,_,_,rfl,rfl,m2,k1,by omega,by omega⟩
   case post2=>
     rintro c t' (⟨r,hr,q⟩|⟨na',nb',out',p,q,rfl,rfl,m',k1,k2,k3⟩)
     · obtain ⟨c1,c2⟩:=c;cases hr;exact wpS_pure ⟨r,rfl,q⟩
     · refine wpS_bind (wpS_lift (wpAny_rule ⟨rfl,?_⟩))
       refine wpS_bind (wpS_mono (wpS_forRange (I:=fun y c t2=>∃na2 nb2 out2 g2 p q,c=(none,na2,nb2,out2,g2,p,q)/\N7 st t2/\Mh rk a b out2 na2 nb2/\1<=na2/\2<=nb2/\x+1+na2+nb2<=a.size+b.size)
         (Q:=fun c t2=>(∃r,c.1=some r/\MQ rk a b st r t2)\/(∃na2 nb2 out2 g2 p q,c=(none,na2,nb2,out2,g2,p,q)/\N7 st t2/\Mh rk a b out2 na2 nb2/\1<=na2/\2<=nb2/\x+1+na2+nb2<=a.size+b.size)) ?step3 ?fin3 ⟨_,_,_,_,_,_,rfl,l,m',k1,k2,k3⟩) ?post3)
       case fin3=>
         rintro c t2 h;exact .inr h
       case post3=>
         rintro c t2 (⟨r,hr,q⟩|⟨na2,nb2,out2,g2,p,q,rfl,l2,m2,n1,n2,n3⟩)
         · obtain ⟨c1,c2⟩:=c;cases hr;exact wpS_pure ⟨r,rfl,q⟩
         · refine wpS_bind (cz2 l2 fun t3 l3=> ?_);exact wpS_pure ⟨_,_,_,_,rfl,m2,n1,n2,n3,l3⟩
       case step3=>
         rintro y c t2 _ yn ⟨na2,nb2,out2,g2,p,q,rfl,l2,m2,n1,n2,n3⟩;have q1:=m2.1;have q2:=m2.2.1;obtain ⟨v,ev,mv⟩:=ib.at (show nb2 - 1 < b.size by omega);refine J1 (fun _=> ?_) (fun _=> ?_)
         all_goals
           refine wpS_bind (cz2 l2 fun t3 l3=> ?_);refine wpS_bind (G4 ev ?_);refine wpS_bind (ap1 (base:=0) (n:=na2) (hint:=na2 - 1) C (l3.kind.trans hk) ia mv (by omega) (by omega) (fun x y h1 h2 h3=>ua x y (by omega) h2 (by omega)) fun k kn ka kb=> ?_)
           have m3:Mh rk a b (out2++(a.extract k na2).reverse) k nb2:=m2.manyA sa kn fun n x h1 h2 hx z hz=>by
             have h:=kb n h1 h2;unfold J6 at h;rw[if_neg (by decide),ej5,L9 hx] at h
             have hle:rk v < rk x:=by simpa using h
             exact ed3 (ap2 sb (by omega) (N5 ev) z hz) (ei1 hle)
           have gA:1<=k->R rk a (k - 1)<=rk v:=fun h=>by
             have h:=ka (k - 1) (by omega);unfold J6 at h;rw[if_neg (by decide),ej5] at h
             simpa using h
           refine J1 (fun kz=> ?_) (fun kz=> ?_);have kz:na2 - k > 0:=kz;refine J1 (fun z=>wpS_pure (.inl ⟨_,rfl,doneM _ _ _ _ m3 l3 (.inl (W1 z))⟩)) (fun z1=> ?_);have z1:¬k=0:=Y1 z1
           have f1:1<=k:=by omega
           have f2:x+1+k+nb2<=a.size+b.size:=by omega
           have f3:=gA f1;generalize out2++(a.extract k na2).reverse=out3 at m3 ⊢
           rotate_left
           have kz:¬na2 - k > 0:=kz
           have k0:k=na2:=by omega
           have e0:out2++(a.extract k na2).reverse=out2:=by rw[k0];simp<;>omega
           rw[e0] at m3
           have f1:1<=k:=by omega
           have f2:x+1+k+nb2<=a.size+b.size:=by omega
           have f3:=gA f1;clear e0;subst k0;generalize out2=out3 at m3 ⊢
           rotate_left
           all_goals
             obtain ⟨u3,eu3,mu3⟩:=ia.at (show k - 1 < a.size by omega);rw[L9 eu3] at f3;refine wpS_bind (G4 ev ?_);have m4:=stepB out3 k nb2 u3 v m3 f1 (by omega) eu3 ev f3;refine J1 (fun z=>wpS_pure (.inl ⟨_,rfl,firstM _ _ _ _ m4 l3 (W1 z)⟩)) (fun z3=> ?_);have z3:¬nb2 - 1=1:=Y1 z3;refine wpS_bind (G4 eu3 ?_);refine wpS_bind (ap1 (base:=0) (n:=nb2 - 1) (hint:=nb2 - 1 - 1) C (l3.kind.trans hk) ib mu3 (by omega) (by omega) (fun x y h1 h2 h3=>ub x y (by omega) h2 (by omega)) fun k' kn' ka' kb'=> ?_)
             have m5:Mh rk a b (out3.push v++(b.extract k' (nb2 - 1)).reverse) k k':=m4.manyB sb kn' fun n x h1 h2 hx z hz=>by
               have h:=kb' n h1 h2;unfold J6 at h;rw[if_pos rfl,ej5,L9 hx] at h
               have hle:rk u3<=rk x:=by simpa using h
               exact ed3 (ap2 sa f1 (N5 eu3) z hz) hle
             have gB:1<=k'->R rk b (k' - 1) < rk u3:=fun h=>by
               have h:=ka' (k' - 1) (by omega);unfold J6 at h;rw[if_pos rfl,ej5] at h
               simpa using h
             refine J1 (fun kz'=> ?_) (fun kz'=> ?_);have kz':nb2 - 1 - k' > 0:=kz';refine J1 (fun z=>wpS_pure (.inl ⟨_,rfl,firstM _ _ _ _ m5 l3 (W1 z)⟩)) (fun z4=> ?_);have z4:¬k'=1:=Y1 z4;refine J1 (fun z=>wpS_pure (.inl ⟨_,rfl,doneM _ _ _ _ m5 l3 (.inr (W1 z))⟩)) (fun z5=> ?_);have z5:¬k'=0:=Y1 z5
             have f4:2<=k':=by omega
             have f5:x+1+k+k'<=a.size+b.size:=by omega
             have f6:=gB (by omega);generalize out3.push v++(b.extract k' (nb2 - 1)).reverse=out4 at m5 ⊢
             rotate_left
             have kz':¬nb2 - 1 - k' > 0:=kz'
             have k0':k'=nb2 - 1:=by omega
             have e0:out3.push v++(b.extract k' (nb2 - 1)).reverse=out3.push v:=by rw[k0'];simp<;>omega
             rw[e0] at m5
             have f4:2<=k':=by omega
             have f5:x+1+k+k'<=a.size+b.size:=by omega
             have f6:=gB (by omega);clear e0;generalize out3.push v=out4 at m5 ⊢
             rotate_left
             all_goals
               have q3:=m5.2.1;obtain ⟨v4,ev4,mv4⟩:=ib.at (show k' - 1 < b.size by omega);rw[L9 ev4] at f6;have m6:=stepA out4 k k' u3 v4 m5 f1 (by omega) eu3 ev4 (ei1 f6);refine wpS_bind (G4 eu3 ?_)
               first
                 |refine J1 (fun z=>wpS_pure (.inl ⟨_,rfl,doneM _ _ _ _ m6 l3 (.inl (W1 z))⟩)) (fun z6=> ?_)
                 |(rw[k0'] at m6;refine J1 (fun z=>wpS_pure (.inl ⟨_,rfl,doneM _ _ _ _ m6 l3 (.inl (W1 z))⟩)) (fun z6=> ?_))
               have z6:¬k - 1=0:=Y1 z6;refine J1 (fun _=> ?_) (fun _=> ?_)
               · first
                   |exact wpS_pure (.inr ⟨k - 1,k',out4.push u3,_,_,_,rfl,l3,m6,by omega,f4,by omega⟩)
                   |exact wpS_pure (.inr ⟨k - 1,nb2 - 1,out4.push u3,_,_,_,rfl,l3,m6,by omega,by omega,by omega⟩)
               · first
                   |exact wpS_pure ⟨k - 1,k',out4.push u3,_,_,_,rfl,l3,m6,by omega,f4,by omega⟩
                   |exact wpS_pure ⟨k - 1,nb2 - 1,out4.push u3,_,_,_,rfl,l3,m6,by omega,by omega,by omega⟩
end
end TS
namespace TS
open PySem PyProof.Rows
section
variable {rk:Keyed->Nat}
def P5 (xs:Array Keyed)(lo hi:Nat):List Keyed:=(xs.toList.take hi).drop lo
theorem R6 {xs:Array Keyed}{lo hi:Nat}(h:hi<=xs.size):(P5 xs lo hi).length=hi - lo:=by unfold P5;rw[eg1,ee1];simp;omega
theorem P6 {xs:Array Keyed}{lo hi i:Nat}(hi':lo+i < hi):(P5 xs lo hi)[i]? =xs[lo+i]? :=by
 unfold P5;rw[eo5,ei7 hi',eh6]
theorem bb3 {xs:Array Keyed}{lo hi:Nat}(u:Up rk xs lo hi)(h:hi<=xs.size):M4 (Le rk) (P5 xs lo hi):=by
 refine ee7.mpr fun i j h1 h2 hij=> ?_
 have l:=R6 (lo:=lo) h;have e1:(P5 xs lo hi)[i]? =some (P5 xs lo hi)[i]:=eb8 h1;have e2:(P5 xs lo hi)[j]? =some (P5 xs lo hi)[j]:=eb8 h2;rw[P6 (by omega)] at e1 e2;have:=u (lo+i) (lo+j) (by omega) (by omega) (by omega);rw[L9 e1,L9 e2] at this;exact this
theorem do9 {xs:Array Keyed}{lo hi:Nat}(s:M4 (Le rk) (P5 xs lo hi))(h:hi<=xs.size):Up rk xs lo hi:=fun i j h1 h2 h3=>by
 have l:=R6 (lo:=lo) h
 rcases ev5 h2 with z|z
 · have:=ee7.mp s (i - lo) (j - lo) (by omega) (by omega) (by omega);have e1:(P5 xs lo hi)[i - lo]? =some (P5 xs lo hi)[i - lo]:=eb8 (by omega);have e2:(P5 xs lo hi)[j - lo]? =some (P5 xs lo hi)[j - lo]:=eb8 (by omega);rw[P6 (by omega),show lo+(i - lo)=i by omega] at e1;rw[P6 (by omega),show lo+(j - lo)=j by omega] at e2;rw[L9 e1,L9 e2];exact this
 · rw[z];exact ec0 _
theorem ad5 {xs:Array Keyed}{lo hi:Nat}{x:Keyed}(h:hi<=xs.size)(hx:x∈P5 xs lo hi):∃i,lo<=i/\i < hi/\xs[i]? =some x:=by
 obtain ⟨i,hi'⟩:=ef8.mp hx;have l:=R6 (lo:=lo) h;have:=(eb9.mp hi').1;exact ⟨lo+i,by omega,by omega,by rw[<-P6 (hi:=hi) (by omega)];exact hi'⟩
theorem ad6 {xs:Array Keyed}{a b c:Nat}(h1:a<=b)(h2:b<=c)(h:c<=xs.size):P5 xs a b++P5 xs b c=P5 xs a c:=by
 refine eg4 fun i=> ?_
 by_cases z:i < b - a
 · rw[ee4 (by rw[R6 (by omega)];omega),P6 (by omega),P6 (by omega)]
 · rw[ee8 (by rw[R6 (by omega)];omega),R6 (by omega)]
   by_cases y:i < c - a
   · rw[P6 (by omega),P6 (by omega)];congr 1;omega
   · rw[ed1 (by rw[R6 h];omega),ed1 (by rw[R6 h];omega)]
theorem cg0 (xs:Array Keyed):P5 xs 0 xs.size=xs.toList:=by
 unfold P5;rw[ez0,el3 (by simp)]
def wr (p:Nat)(l:List (Keyed×Nat))(xs:Array Keyed):Array Keyed:=l.foldl (fun a q=>a.setIfInBounds (p+q.2) q.1) xs
theorem ap3 (p:Nat):∀(l:List (Keyed×Nat)) (xs:Array Keyed),(wr p l xs).size=xs.size
 |[],xs=>rfl
 |q::l,xs=>(ap3 p l _).trans (by simp)
theorem by4 (p:Nat):∀(m:List Keyed) (n:Nat) (xs:Array Keyed),p+n+m.length<=xs.size->∀k,(wr p (m.zipIdx n) xs)[k]? =if p+n<=k/\k < p+n+m.length then m[k - (p+n)]? else xs[k]?
 |[],n,xs,_,k=>by
  show xs[k]? =_;rw[if_neg (by simp)]
 |x::m,n,xs,h,k=>by
  rw[eg9] at h ⊢;show (wr p (m.zipIdx (n+1)) (xs.setIfInBounds (p+n) x))[k]? =_;rw[by4 p m (n+1) _ (by rw[Array.size_setIfInBounds];omega) k,Array.getElem?_setIfInBounds]
  by_cases z:k=p+n
  · subst z;rw[if_neg (by omega),if_pos rfl,if_pos (by omega),if_pos (by omega),em4];rfl
  · by_cases y:p+n<=k/\k < p+n+(m.length+1)
    · rw[if_pos (by omega),if_pos y,show k - (p+n)=k - (p+(n+1))+1 by omega];rfl
    · rw[if_neg (by omega),if_neg (by omega),if_neg y]
theorem cs7 {m:List Keyed}{p:Nat}{xs:Array Keyed}(h:p+m.length<=xs.size):P5 (wr p m.zipIdx xs) p (p+m.length)=m:=by
 refine eg4 fun i=> ?_
 by_cases z:i < m.length
 · rw[P6 (by omega),by4 p m 0 xs h,if_pos (by omega)]
   congr 1;omega
 · rw[ed1 (by rw[R6 (by rw[ap3];omega)];omega),ed1 (by omega)]
theorem cg1 {m:List Keyed}{p:Nat}{xs:Array Keyed}(h:p+m.length<=xs.size):I0 xs (wr p m.zipIdx xs) p (p+m.length):=fun k hk=>by
 rw[by4 p m 0 xs h,if_neg (by omega)]
theorem as7 {xs ys:Array Keyed}{lo hi a b:Nat}(hz:ys.size=xs.size)(k:I0 xs ys lo hi)(h:b<=lo\/hi<=a)(hb:b<=xs.size):P5 ys a b=P5 xs a b:=by
 refine eg4 fun i=> ?_
 by_cases z:a+i < b
 · rw[P6 z,P6 z];exact k _ (by omega)
 · rw[ed1 (by rw[R6 (by omega)];omega),ed1 (by rw[R6 hb];omega)]
theorem dg8 {m:List Keyed}{p:Nat}{xs:Array Keyed}(h:p+m.length<=xs.size)(pm:m.Perm (P5 xs p (p+m.length))):(wr p m.zipIdx xs).Perm xs:=by
 rw[em7,<-cg0 xs,<-cg0 (wr p m.zipIdx xs),ap3];have hk:=cg1 h;have hs:=ap3 p m.zipIdx xs;rw[<-ad6 (ed7 p) (show p<=xs.size by omega) (ec0 _),<-ad6 (show p<=p+m.length by omega) (show p+m.length<=xs.size by omega) (ec0 _)];rw[<-ad6 (xs:=wr p m.zipIdx xs) (ed7 p) (show p<=xs.size by omega) (by omega),<-ad6 (xs:=wr p m.zipIdx xs) (show p<=p+m.length by omega) (show p+m.length<=xs.size by omega) (by omega)];rw[as7 hs hk (.inl (ec0 _)) (by omega),as7 hs hk (.inr (ec0 _)) (ec0 _),cs7 h];exact List.Perm.append_left _ (pm.append_right _)
end
end TS
namespace TS
open PySem PyProof.Rows
section
variable {prog:Program} {w:World} {A:Around} {E:Value->Shared->Prop} {s:Shared}
variable {rk:Keyed->Nat} {a0:Array Keyed} {κ:SortKind}
theorem dg9 {st:SortSt}(B:Bs a0 κ st)(lo hi:Nat):In0 a0 ((arrOf st).extract lo hi):=fun x hx=>by
 rw[X3] at hx;exact (em7.mp B.perm).mem_iff.mp (ei5 (ep1 hx))
theorem bm3 {st:SortSt}(B:Bs a0 κ st):In0 a0 (arrOf st):=fun x hx=>(em7.mp B.perm).mem_iff.mp hx
theorem cg2 {xs:Array Keyed}{lo hi i:Nat}(h:lo+i < hi):(xs.extract lo hi)[i]? =xs[lo+i]? :=by
 rw[<-eh6,X3];exact P6 h
theorem dp0 {st:SortSt}{i sa na nb pw pw2:Nat}{Q:Bool->SortSt->Prop}(C:Cm prog w A s κ rk a0)(B:Bs a0 κ st)(e1:(pendingOf st)[i]? =some (sa,na,pw))(e2:(pendingOf st)[i+1]? =some (sa+na,nb,pw2))(n1:1<=na)(n2:1<=nb)
   (hz:sa+na+nb<=a0.size) (u1:Up rk (arrOf st) sa (sa+na)) (u2:Up rk (arrOf st) (sa+na) (sa+na+nb))
   (h:∀t,Bs a0 κ t->Up rk (arrOf t) sa (sa+na+nb)->I0 (arrOf st) (arrOf t) sa (sa+na+nb)->pendingOf t=((pendingOf st).setIfInBounds i (sa,na+nb,pw)).eraseIdxIfInBounds (i+1)->Q true t):
   wpS (model prog w) A E s (mergeAt' i) Q st:=by
 have hs:=B.size;refine wpS_bind (wpS_get ?_);rw[show (sortPriv%PySem.Builtin.SortState.pending) st=pendingOf st from rfl,e1,e2];refine wpS_bind (wpS_modify (f:=fun _=>setPending st (((pendingOf st).setIfInBounds i (sa,na+nb,pw)).eraseIdxIfInBounds (i+1))) ?_);obtain ⟨pd,hpd⟩:∃pd,pd=((pendingOf st).setIfInBounds i (sa,na+nb,pw)).eraseIdxIfInBounds (i+1):=⟨_,rfl⟩;rw[<-hpd] at h ⊢;have B1:Bs a0 κ (setPending st pd):=⟨B.perm,B.kind,B.ok⟩;obtain ⟨xs,hxs⟩:∃xs,xs=arrOf st:=⟨_,rfl⟩;have In:=bm3 B
 have ext0:=fun lo hi=>dg9 B lo hi
 rw[<-hxs] at hs u1 u2 h In ext0
 have hxz:sa+na+nb<=xs.size:=by omega
 obtain ⟨key,ek,mk⟩:=In.at (show sa+na < xs.size by omega)
 have ek':(arrOf st)[sa+na]? =some key:=by rw[<-hxs];exact ek
 refine wpS_bind (G4 ek' ?_);refine wpS_bind (ap1 (left:=false) (arr:=arrOf st) (base:=sa) (n:=na) (hint:=0) C B1.kind (bm3 B) mk (by rw[<-hxs];omega) (by omega) (by rw[<-hxs];exact u1) fun k kn ka kb=> ?_)
 have ka1:∀i,sa<=i->i < sa+k->R rk xs i<=rk key:=fun i h1 h2=>by
   have:=ka (i - sa) (by omega);unfold J6 at this;rw[if_neg (by decide),<-hxs,show sa+(i - sa)=i by omega] at this
   simpa using this
 have kb1:∀i,sa+k<=i->i < sa+na->rk key < R rk xs i:=fun i h1 h2=>by
   have:=kb (i - sa) (by omega) (by omega);unfold J6 at this;rw[if_neg (by decide),<-hxs,show sa+(i - sa)=i by omega] at this
   simpa using this
 have rkey:R rk xs (sa+na)=rk key:=L9 ek
 have joined:(∀i,sa<=i->i < sa+na->∀j,sa+na<=j->j < sa+na+nb->R rk xs i<=R rk xs j)->Up rk xs sa (sa+na+nb):=fun g i j h1 h2 h3=>by
   by_cases y:j < sa+na
   · exact u1 i j h1 h2 y
   · by_cases z:i < sa+na
     · exact g i h1 z j (by omega) h3
     · exact u2 i j (by omega) h2 h3
 refine J1 (fun z=> ?_) (fun z=> ?_)
 · have z:na - k=0:=W1 z;refine wpS_pure (h _ B1 ?_ (by rw[hxs];exact I0.refl _ _ _) rfl);show Up rk (arrOf st) _ _;rw[<-hxs]
   refine joined fun i h1 h2 j h3 h4=> ?_
   have a1:=ka1 i h1 (by omega);have a2:=u2 (sa+na) j (ec0 _) h3 h4;omega
 have z:¬na - k=0:=Y1 z
 have ep:sa+k+(na - k) - 1=sa+na - 1:=by omega
 obtain ⟨key2,ek2,mk2⟩:=In.at (show sa+na - 1 < xs.size by omega)
 have ek2':(arrOf st)[sa+k+(na - k) - 1]? =some key2:=by rw[ep,<-hxs];exact ek2
 have rkey2:R rk xs (sa+na - 1)=rk key2:=L9 ek2;refine wpS_bind (G4 ek2' ?_);refine wpS_bind (ap1 (left:=true) (arr:=arrOf st) (base:=sa+na) (n:=nb) (hint:=nb - 1) C B1.kind (bm3 B) mk2 (by rw[<-hxs];omega) (by omega) (by rw[<-hxs];exact u2) fun k' kn' ka' kb'=> ?_)
 have ka2:∀i,sa+na<=i->i < sa+na+k'->R rk xs i < rk key2:=fun i h1 h2=>by
   have:=ka' (i - (sa+na)) (by omega);unfold J6 at this;rw[if_pos rfl,<-hxs,show sa+na+(i - (sa+na))=i by omega] at this
   simpa using this
 have kb2:∀i,sa+na+k'<=i->i < sa+na+nb->rk key2<=R rk xs i:=fun i h1 h2=>by
   have:=kb' (i - (sa+na)) (by omega) (by omega);unfold J6 at this;rw[if_pos rfl,<-hxs,show sa+na+(i - (sa+na))=i by omega] at this
   simpa using this
 refine J1 (fun z'=> ?_) (fun z'=> ?_)
 · have z':k'=0:=W1 z';refine wpS_pure (h _ B1 ?_ (by rw[hxs];exact I0.refl _ _ _) rfl);show Up rk (arrOf st) _ _;rw[<-hxs]
   refine joined fun i h1 h2 j h3 h4=> ?_
   have a1:=kb2 j (by omega) h4;have a2:=u1 i (sa+na - 1) h1 (by omega) (by omega);omega
 have z':¬k'=0:=Y1 z';have xl:(xs.extract (sa+k) (sa+na)).toList=P5 xs (sa+k) (sa+na):=X3 _ _ _;have yl:(xs.extract (sa+na) (sa+na+k')).toList=P5 xs (sa+na) (sa+na+k'):=X3 _ _ _
 have xz:(xs.extract (sa+k) (sa+na)).size=na - k:=by rw[Array.size_extract];omega
 have yz:(xs.extract (sa+na) (sa+na+k')).size=k':=by rw[Array.size_extract];omega
 have sx:M4 (Le rk) (xs.extract (sa+k) (sa+na)).toList:=by rw[xl];exact bb3 (fun i j h1 h2 h3=>u1 i j (by omega) h2 h3) (by omega)
 have sy:M4 (Le rk) (xs.extract (sa+na) (sa+na+k')).toList:=by rw[yl];exact bb3 (fun i j h1 h2 h3=>u2 i j h1 h2 (by omega)) (by omega)
 have fx:∀x,(xs.extract (sa+na) (sa+na+k'))[0]? =some x->∀y∈(xs.extract (sa+k) (sa+na)).toList,Le rk x y:=fun x hx y hy=>by
   rw[cg2 (by omega),ej1,ek] at hx;rw[xl] at hy;obtain ⟨i,h1,h2,h3⟩:=ad5 (by omega) hy;have:=kb1 i h1 h2;rw[L9 h3] at this;rw[<-Option.some.inj hx];exact ei1 this
 have ly:∀x∈(xs.extract (sa+na) (sa+na+k')).toList,∀y,(xs.extract (sa+k) (sa+na))[(xs.extract (sa+k) (sa+na)).size - 1]? =some y->Le rk x y:=fun x hx y hy=>by
   rw[xz,cg2 (by omega),show sa+k+(na - k - 1)=sa+na - 1 by omega,ek2] at hy;rw[yl] at hx;obtain ⟨i,h1,h2,h3⟩:=ad5 (by omega) hx;have:=ka2 i h1 h2;rw[L9 h3] at this;rw[<-Option.some.inj hy];exact ei1 this
 have fin:∀m t,MQ rk (xs.extract (sa+k) (sa+na)) (xs.extract (sa+na) (sa+na+k')) (setPending st pd) m t->Q true (setArr t (wr (sa+k) m.toList.zipIdx (arrOf t)))/\failedOf t=none:=by
   rintro m t ⟨⟨pm,sm⟩,l⟩
   have lm:m.toList.length=na - k+k':=by rw[pm.length_eq,ec6,ef0,ef0,xz,yz]
   have ea:arrOf t=xs:=by rw[l.arr,hxs]
   have hle:sa+k+m.toList.length<=xs.size:=by omega
   have esg:P5 xs (sa+k) (sa+k+m.toList.length)=P5 xs (sa+k) (sa+na)++P5 xs (sa+na) (sa+na+k'):=by
     rw[ad6 (by omega) (by omega) (by omega)];congr 1;omega
   have pm':m.toList.Perm (P5 xs (sa+k) (sa+k+m.toList.length)):=by rw[esg,<-xl,<-yl];exact pm
   have kw:=cg1 hle;have zw:=ap3 (sa+k) m.toList.zipIdx xs;refine ⟨h _ ⟨?_,l.kind.trans B1.kind,l.ok.trans B1.ok⟩ ?_ ?_ l.pend,l.ok.trans B1.ok⟩
   · show (wr (sa+k) m.toList.zipIdx (arrOf t)).Perm a0;rw[ea];refine (dg8 hle pm').trans ?_;rw[hxs];exact B.perm
   · show Up rk (wr (sa+k) m.toList.zipIdx (arrOf t)) sa (sa+na+nb);rw[ea];refine do9 ?_ (by omega)
     rw[<-ad6 (show sa<=sa+k by omega) (show sa+k<=sa+na+nb by omega) (by omega),<-ad6 (show sa+k<=sa+k+m.toList.length by omega) (show sa+k+m.toList.length<=sa+na+nb by omega) (by omega),cs7 hle,
       as7 zw kw (.inl (ec0 _)) (by omega),as7 zw kw (.inr (ec0 _)) (by omega)]
     have mm:∀x∈m.toList,(∃i,sa+k<=i/\i < sa+na/\xs[i]? =some x)\/(∃i,sa+na<=i/\i < sa+na+k'/\xs[i]? =some x):=fun x hx=>by
       have:=pm.mem_iff.mp hx;rw[xl,yl] at this
       rcases ed0.mp this with e|e
       · exact .inl (ad5 (by omega) e)
       · exact .inr (ad5 (by omega) e)
     refine aa1.mpr ⟨bb3 (fun i j h1 h2 h3=>u1 i j h1 h2 (by omega)) (by omega),aa1.mpr ⟨sm,bb3 (fun i j h1 h2 h3=>u2 i j (by omega) h2 h3) (by omega),fun x hx y hy=> ?_⟩,fun x hx y hy=> ?_⟩
     · obtain ⟨j,j1,j2,j3⟩:=ad5 (by omega) hy;have b2:=kb2 j (by omega) j2;rw[L9 j3] at b2
       rcases mm x hx with ⟨i,i1,i2,i3⟩|⟨i,i1,i2,i3⟩
       · have b1:=u1 i (sa+na - 1) (by omega) (by omega) (by omega);rw[L9 i3,rkey2] at b1;exact ed3 b1 b2
       · have b1:=ka2 i i1 i2;rw[L9 i3] at b1;show rk x<=rk y;omega
     · obtain ⟨i,i1,i2,i3⟩:=ad5 (by omega) hx;have b1:=ka1 i i1 i2;rw[L9 i3] at b1;show rk x<=rk y
       rcases ed0.mp hy with e|e
       · rcases mm y e with ⟨j,j1,j2,j3⟩|⟨j,j1,j2,j3⟩
         · have b2:=kb1 j j1 j2;rw[L9 j3] at b2;omega
         · have b2:=u2 (sa+na) j (ec0 _) j1 (by omega);rw[L9 j3,rkey] at b2;omega
       · obtain ⟨j,j1,j2,j3⟩:=ad5 (by omega) e;have b2:=u2 (sa+na) j (ec0 _) (by omega) j2;rw[L9 j3,rkey] at b2;omega
   · show I0 xs (wr (sa+k) m.toList.zipIdx (arrOf t)) _ _;rw[ea];exact kw.wide (by omega) (by omega)
 have ix:=ext0 (sa+k) (sa+na);have iy:=ext0 (sa+na) (sa+na+k');have k1:kindOf (setPending st pd)=κ:=B1.kind
 have end_:∀m t,MQ rk (xs.extract (sa+k) (sa+na)) (xs.extract (sa+na) (sa+na+k')) (setPending st pd) m t->Q (failedOf (setArr t (wr (sa+k) m.toList.zipIdx (arrOf t)))).isNone (setArr t (wr (sa+k) m.toList.zipIdx (arrOf t))):=fun m t q=>by
   obtain ⟨f1,f2⟩:=fin m t q;show Q (failedOf t).isNone _;rw[f2];exact f1
 rw[hxs] at ix iy sx sy fx ly end_ xz yz
 have g1:1<=((arrOf st).extract (sa+k) (sa+na)).size:=by rw[xz];omega
 have g2:1<=((arrOf st).extract (sa+na) (sa+na+k')).size:=by rw[yz];omega
 refine J1 (fun _=> ?_) (fun _=> ?_)
 · refine wpS_bind (wpS_mono (do7 C k1 ix iy g1 g2 sx sy fx ly) fun m t q=> ?_);exact wpS_bind (wpS_modify (wpS_bind (wpS_get (wpS_pure (end_ m t q)))))
 · refine wpS_bind (wpS_mono (do8 C k1 ix iy g1 g2 sx sy fx ly) fun m t q=> ?_);exact wpS_bind (wpS_modify (wpS_bind (wpS_get (wpS_pure (end_ m t q)))))
end
end TS
namespace TS
open PySem PyProof.Rows
section
variable {rk:Keyed->Nat}
def K1 (rk:Keyed->Nat)(xs:Array Keyed):List (Nat×Nat×Nat)->Nat->Nat->Prop
 |[],a,b=>a=b
 |q::r,a,b=>q.1=a/\1<=q.2.1/\Up rk xs a (a+q.2.1)/\K1 rk xs r (a+q.2.1) b
theorem K1.len {xs:Array Keyed}:∀{l:List (Nat×Nat×Nat)} {a b:Nat},K1 rk xs l a b->a+l.length<=b
 |[],a,b,h=>eq8 h
 |q::r,a,b,⟨h1,h2,h3,h4⟩=>by
  have:=K1.len h4;rw[eg9];omega
theorem K1.app {xs:Array Keyed}:∀{l m:List (Nat×Nat×Nat)} {a b:Nat},K1 rk xs (l++m) a b↔∃c,K1 rk xs l a c/\K1 rk xs m c b
 |[],m,a,b=>⟨fun h=>⟨a,rfl,h⟩,fun ⟨c,e,h⟩=>by cases e;exact h⟩
 |q::r,m,a,b=>by
  constructor
  · rintro ⟨h1,h2,h3,h4⟩;obtain ⟨c,g1,g2⟩:=K1.app.mp h4;exact ⟨c,⟨h1,h2,h3,g1⟩,g2⟩
  · rintro ⟨c,⟨h1,h2,h3,h4⟩,g⟩;exact ⟨h1,h2,h3,K1.app.mpr ⟨c,h4,g⟩⟩
theorem K1.kept {xs ys:Array Keyed}{lo hi:Nat}(k:I0 xs ys lo hi):∀{l:List (Nat×Nat×Nat)} {a b:Nat},K1 rk xs l a b->b<=lo\/hi<=a->K1 rk ys l a b
 |[],a,b,h,_=>h
 |q::r,a,b,⟨h1,h2,h3,h4⟩,hk=>by
  have:=K1.len h4;exact ⟨h1,h2,k.up h3 (by omega),K1.kept k h4 (by omega)⟩
theorem bq5 {α:Type}:∀(l:List α) (x y z:α) (m:List α),((l++x::y::m).set l.length z).eraseIdx (l.length+1)=l++z::m
 |[],x,y,z,m=>rfl
 |a::l,x,y,z,m=>by
  show a::(((l++x::y::m).set l.length z).eraseIdx (l.length+1))=_;rw[bq5 l x y z m];rfl
theorem dp1 {α:Type}{l:List α}{i:Nat}(h:i+1 < l.length):l=l.take i++l[i]::l[i+1]::l.drop (i+2):=by
 have e1:=el5 (show i < l.length by omega);have e2:=el5 h;rw[<-e2,<-e1,ei8]
theorem cg3 {xs:Array Keyed}{pw:Nat}:∀{l:List (Nat×Nat×Nat)} {n a b:Nat},K1 rk xs l a b->K1 rk xs (l.modify n fun q=>(q.1,q.2.1,pw)) a b
 |[],n,a,b,h=>by cases n<;>exact h
 |q::r,0,a,b,⟨h1,h2,h3,h4⟩=>⟨h1,h2,h3,h4⟩
 |q::r,n+1,a,b,⟨h1,h2,h3,h4⟩=>⟨h1,h2,h3,cg3 h4⟩
end
section
variable {prog:Program} {w:World} {A:Around} {E:Value->Shared->Prop} {s:Shared}
variable {rk:Keyed->Nat} {a0:Array Keyed} {κ:SortKind}
theorem cs8 {st:SortSt}{i lo:Nat}{Q:Bool->SortSt->Prop}(C:Cm prog w A s κ rk a0)(B:Bs a0 κ st)(cv:K1 rk (arrOf st) (pendingOf st).toList 0 lo)(hl:lo<=a0.size)(hi:i+1 < (pendingOf st).size)
   (h:∀t,Bs a0 κ t->K1 rk (arrOf t) (pendingOf t).toList 0 lo->(pendingOf t).size+1=(pendingOf st).size->I0 (arrOf st) (arrOf t) 0 lo->Q true t):wpS (model prog w) A E s (mergeAt' i) Q st:=by
 obtain ⟨l,hl0⟩:∃l,l=(pendingOf st).toList:=⟨_,rfl⟩
 have ll:l.length=(pendingOf st).size:=by rw[hl0];simp
 have hil:i+1 < l.length:=by omega
 have e:=dp1 hil;rw[<-hl0,e] at cv;obtain ⟨c,c1,d1,d2,d3,f1,f2,f3,g⟩:=K1.app.mp cv;have lg:=K1.len g
 have e1:(pendingOf st)[i]? =some (c,l[i].2.1,l[i].2.2):=by
   rw[<-eh6,<-hl0,eb8 (by omega),<-d1]
 have e2:(pendingOf st)[i+1]? =some (c+l[i].2.1,l[i+1].2.1,l[i+1].2.2):=by
   rw[<-eh6,<-hl0,eb8 hil,<-f1]
 refine dp0 C B e1 e2 d2 f2 (by omega) d3 f3 fun t B' u k p=> ?_
 have lt:(l.take i).length=i:=by rw[ee1];omega
 have ep:(pendingOf t).toList=l.take i++(c,l[i].2.1+l[i+1].2.1,l[i].2.2)::l.drop (i+2):=by
   rw[p,Array.toList_eraseIdxIfInBounds,Array.toList_setIfInBounds,<-hl0];have:=bq5 (l.take i) l[i] l[i+1] (c,l[i].2.1+l[i+1].2.1,l[i].2.2) (l.drop (i+2));rw[lt,<-e] at this;exact this
 have lc:=K1.len c1;refine h t B' ?_ ?_ (k.wide (ed7 _) (by omega))
 · rw[ep];refine K1.app.mpr ⟨c,K1.kept k c1 (.inl (ec0 _)),rfl,by show 1<=l[i].2.1+l[i+1].2.1;omega,?_,?_⟩
   · show Up rk (arrOf t) c (c+(l[i].2.1+l[i+1].2.1));rw[<-er5];exact u
   · show K1 rk (arrOf t) (l.drop (i+2)) (c+(l[i].2.1+l[i+1].2.1)) lo;rw[<-er5];exact K1.kept k g (.inr (ec0 _))
 · rw[<-ef0,ep,ec6,eg9,eg1,lt];omega
theorem dt7 {c:Prop}[Decidable c]{a b n:Nat}(h1:a<=n)(h2:b<=n):(if c then a else b)<=n:=by split<;>assumption
theorem cz3 {t:SortSt}{lo n:Nat}(cv:K1 rk (arrOf t) (pendingOf t).toList 0 lo)(n1:1<=n)(u:Up rk (arrOf t) lo (lo+n)):K1 rk (arrOf t) ((pendingOf t).push (lo,n,0)).toList 0 (lo+n):=by
 rw[ep0];exact K1.app.mpr ⟨lo,cv,rfl,n1,u,rfl⟩
theorem ea3 {st:SortSt}{Q:Unit->SortSt->Prop}(C:Cm prog w A s κ rk a0)(B:Bs a0 κ st)(pe:pendingOf st= #[])(h2:2<=a0.size)
   (h:∀t,Bs a0 κ t->Up rk (arrOf t) 0 a0.size->Q () t):wpS (model prog w) A E s sortRuns' Q st:=by
 rw[sortRuns'_eq];refine wpS_bind (wpS_get ?_)
 dsimp only
 rw[B.size];generalize minRun' a0.size a0.size 0=mr
 refine wpS_bind (wpS_mono (wpS_forRange (I:=fun x c t=>∃lo,c=(none,lo)/\Bs a0 κ t/\K1 rk (arrOf t) (pendingOf t).toList 0 lo/\lo<=a0.size/\(x<=lo\/a0.size<=lo))
   (Q:=fun c t=>∃lo,c=(none,lo)/\Bs a0 κ t/\K1 rk (arrOf t) (pendingOf t).toList 0 lo/\lo=a0.size) ?step ?fin ⟨0,rfl,B,by rw[pe];exact rfl,ed7 _,.inl (ec0 _)⟩) ?post)
 case fin=>
   rintro c t ⟨lo,rfl,B',cv,h3,h4⟩;exact ⟨lo,rfl,B',cv,by omega⟩
 case step=>
   rintro x c t _ xn ⟨lo,rfl,B',cv,h3,h4⟩;refine J1 (fun z=>wpS_pure ⟨lo,rfl,B',cv,by have z:lo≥a0.size:=z;omega⟩) (fun z=> ?_);have z:¬lo≥a0.size:=z;refine wpS_bind (wpS_mono (do5 (lo:=lo) (nrem:=a0.size - lo) C (by omega) (by omega) B') ?_);rintro r t1 ⟨n,rfl,B1,n1,n2,u1,k1,p1⟩
   have cv1:K1 rk (arrOf t1) (pendingOf t1).toList 0 lo:=by rw[p1];exact K1.kept k1 cv (.inl (ec0 _))
   clear k1 p1;refine J1 (fun y=> ?_) (fun y=> ?_);have y:n < mr:=y;refine wpS_bind (wpS_lift (wpAny_rule ⟨rfl,?_⟩));refine wpS_bind (do4 (lo:=lo) (n:=min (a0.size - lo) mr) (ok:=n) C (by omega) (by omega) B1 u1 fun t2 B2 u2 k2 p2=> ?_);refine J1 (fun h=>absurd h (by decide)) (fun _=> ?_)
   have cv2:K1 rk (arrOf t2) (pendingOf t2).toList 0 lo:=by rw[p2];exact K1.kept k2 cv1 (.inl (ec0 _))
   have N1:1<=min (a0.size - lo) mr:=by omega
   have N2:lo+min (a0.size - lo) mr<=a0.size:=by omega
   clear p2 k2;generalize min (a0.size - lo) mr=N at u2 N1 N2 ⊢
   rotate_left
   have N1:1<=n:=n1
   have N2:lo+n<=a0.size:=by omega
   have B2:=B1;have u2:=u1;have cv2:=cv1;generalize t1=t2 at B2 u2 cv2 ⊢;generalize n=N at N1 N2 u2 ⊢
   rotate_left
   all_goals
     refine wpS_bind (wpS_get ?_)
     cases hb:(pendingOf t2).back? with
     |none=>
      exact wpS_bind (wpS_modify (wpS_pure ⟨lo+N,rfl,⟨B2.perm,B2.kind,B2.ok⟩,cz3 cv2 N1 u2,N2,by omega⟩))
     |some q=>
      obtain ⟨s1,m1,pw⟩:=q
      refine wpS_bind (wpS_mono (wpS_forRange (I:=fun y c t=>c=(none,())/\Bs a0 κ t/\K1 rk (arrOf t) (pendingOf t).toList 0 lo/\Up rk (arrOf t) lo (lo+N))
        (Q:=fun c t=>c=(none,())/\Bs a0 κ t/\K1 rk (arrOf t) (pendingOf t).toList 0 lo/\Up rk (arrOf t) lo (lo+N)) ?_ (fun _ _ h=>h) ⟨rfl,B2,cv2,u2⟩) ?_)
      · rintro y c t3 _ yn ⟨rfl,B3,cv3,u3⟩;refine wpS_bind (wpS_get ?_)
        by_cases g:(pendingOf t3).size > 1
        · rw[if_pos g,ew5 (show (pendingOf t3).size - 2 < (pendingOf t3).size by omega)];refine J1 (fun _=>wpS_pure ⟨rfl,B3,cv3,u3⟩) (fun _=> ?_);refine wpS_bind (cs8 C B3 cv3 (by omega) (by omega) fun t4 B4 cv4 sz k4=> ?_);refine J1 (fun h=>absurd h (by decide)) (fun _=> ?_);exact wpS_pure ⟨rfl,B4,cv4,k4.up u3 (.inr (ec0 _))⟩
        · rw[if_neg g];exact wpS_pure ⟨rfl,B3,cv3,u3⟩
      · rintro c t3 ⟨rfl,B3,cv3,u3⟩;refine wpS_bind (wpS_modify (wpS_bind (wpS_modify (wpS_pure ⟨lo+N,rfl,⟨B3.perm,B3.kind,B3.ok⟩,?_,N2,by omega⟩))));show K1 rk (arrOf t3) (ei9 (Array.push (Array.modify (pendingOf t3) _ _) (lo,N,0))) 0 (lo+N);rw[ep0,Array.toList_modify];exact K1.app.mpr ⟨lo,cg3 cv3,rfl,N1,u3,rfl⟩
 case post=>
   rintro c t ⟨lo,rfl,B',cv,rfl⟩
   dsimp only
   have lc:=K1.len cv
   refine wpS_bind (wpS_mono (wpS_forRange (I:=fun x c t=>c=(none,())/\Bs a0 κ t/\K1 rk (arrOf t) (pendingOf t).toList 0 a0.size/\((pendingOf t).size<=1\/(pendingOf t).size+x<=a0.size))
     (Q:=fun c t=>c=(none,())/\Bs a0 κ t/\K1 rk (arrOf t) (pendingOf t).toList 0 a0.size/\(pendingOf t).size<=1) ?stepE ?finE ⟨rfl,B',cv,.inr (by rw[<-ef0];omega)⟩) ?postE)
   case finE=>
     rintro c t ⟨rfl,B',cv,z⟩;exact ⟨rfl,B',cv,by omega⟩
   case stepE=>
     rintro x c t _ xn ⟨rfl,B',cv,z⟩;refine wpS_bind (wpS_get ?_);refine J1 (fun y=>wpS_pure ⟨rfl,B',cv,y⟩) (fun y=> ?_);have y:¬(pendingOf t).size<=1:=y;refine wpS_bind (cs8 C B' cv (ec0 _) ?_ fun t2 B2 cv2 sz _=> ?_)
     · exact ee5 (ex3 (dt7 (n:=(pendingOf t).size - 2) (by omega) (ec0 _))) (by omega)
     · exact wpS_pure ⟨rfl,B2,cv2,by omega⟩
   case postE=>
     rintro c t ⟨rfl,B',cv,z⟩;refine wpS_pure (h t B' ?_);obtain ⟨l,hl⟩:∃l,l=(pendingOf t).toList:=⟨_,rfl⟩
     have ll:l.length<=1:=by rw[hl,ef0];exact z
     rw[<-hl] at cv
     match l,ll,cv with
     |[],_,cv=>have:0=a0.size:=cv;omega
     |[q],_,⟨c1,c2,c3,c4⟩=>
      have c4:0+q.2.1=a0.size:=c4;rw[c4] at c3;exact c3
end
end TS
namespace L2
open PySem PySem.Spec PyProof.Rows
section
variable {prog:Program} {w:World} {A:Around} {E:Value->Shared->Prop} {s:Shared}
structure bj0 (prog:Program)(w:World)(A:Around)(s:Shared)(rk:Value->Nat)(vs:List Value):Prop where
 kind:2<=vs.length->∀(Q:SortKind->Shared->Prop) (E:Value->Shared->Prop),Q oneType' s->wpAny (model prog w) A (keyKind' vs.toArray) Q E s
 less:∀x∈vs,∀y∈vs,∀(Q:Bool->Shared->Prop) (E:Value->Shared->Prop),Q (decide (rk x < rk y)) s->wpAny (model prog w) A (oneLt' true x y) Q E s
theorem bm4 {vs:List Value}{p:Keyed}(h:p∈(pairsOf vs).toList):p.1∈vs/\p.2=p.1:=by
 rw[pairsOf_toList] at h;obtain ⟨i,hi⟩:=ef8.mp h;obtain ⟨x,y⟩:=p;rw[List.getElem?_zip_eq_some] at hi;obtain ⟨e1,e2⟩:=hi;rw[e1] at e2;exact ⟨ec8 e1,(Option.some.inj e2).symm⟩
theorem dp2 {rk:Value->Nat}{vs:List Value}{xs:Array Keyed}(hp:xs.Perm (pairsOf vs))(u:TS.Up (fun p=>rk p.1) xs 0 xs.size):(xs.map (·.2)).toList.Perm vs/\(xs.map (·.2)).toList.Pairwise (fun x y=>rk x<=rk y):=by
 have pl:=em7.mp hp
 have e:xs.toList.map (·.2)=xs.toList.map (·.1):=eh8 fun p hp'=>(bm4 (pl.mem_iff.mp hp')).2
 rw[ex6];constructor
 · refine (pl.map _).trans ?_;rw[<-ex6,bq4]
 · show List.Pairwise _ (xs.toList.map (·.2));rw[e];exact el4.mpr (TS.dw4 u)
theorem dt8 {rk:Value->Nat}{vs:List Value}(h:bj0 prog w A s rk vs):TS.Cm prog w A s oneType' (fun p=>rk p.1) (pairsOf vs):=fun x hx y hy Q E' q=>by
 rw[keyLt'_oneType];exact h.less x.1 (bm4 hx).1 y.1 (bm4 hy).1 Q E' q
theorem dt9 {a:Addr}{vs:List Value}{rk:Value->Nat}{n:Nat}{P:Fin->Shared->Prop}(ho:s.heap.get? a=some (seqObj "list" vs.toArray n))(hl:vs.length<=sizeLine)
   (ok:∀h':Heap,(∀b o,b≠a->s.heap.get? b=some o->h'.get? b=some o)->bj0 prog w A {s with heap:=h'} rk vs)
   (h:∀out:List Value,out.Perm vs->out.Pairwise (fun x y=>rk x<=rk y)->P (.done (.ret .none)) {s with heap:=sortedHeap s.heap a vs out.toArray}):wpAny (model prog w) A (Builtin.«list.sort» ⟨[.ref a],[]⟩) P E s:=by
 rw[list_sort_plain];have ha:a < s.heap.objs.size:=Heap.lt_size ho
 have hsz:vs.toArray.size=vs.length:=by simp
 refine wpAny_bind (listItems_at ho rfl ?_);refine wpAny_bind (listUpdate_at ho rfl ?_ (by rw[hsz];exact hl) (ed7 _));obtain ⟨e1,ho1⟩:∃e1,(s.heap.update a (Obj.mapSeq fun _=> #[])).get? a=some (seqObj "list" #[] e1):=⟨_,get?_update_seq ho (fun _=> #[])⟩;refine wpAny_bind (seqEpoch_at ho1 rfl ?_);refine wpAny_bind (wpAny_newTuple ?_ (hsz:=hl));refine wpAny_bind (wpAny_newList ?_);refine wpAny_holding ?_;obtain ⟨H6,e6⟩:∃H6,H6=((s.heap.update a (Obj.mapSeq fun _=> #[])).push (seqObj "tuple" vs.toArray 0)).push (seqObj "list" #[] 0):=⟨_,rfl⟩
 have ho6:H6.get? a=some (seqObj "list" #[] e1):=by
   rw[e6,Heap.get?_push_ne _ _ _ (by rw[size_push',Heap.size_update];exact eh2 (ew4 ha)),Heap.get?_push_ne _ _ _ (by rw[Heap.size_update];exact eh2 ha)];exact ho1
 have old:∀b o,b≠a->s.heap.get? b=some o->H6.get? b=some o:=by
   intro b o nb hb;rw[e6];refine Heap.get?_push_of_some _ (Heap.get?_push_of_some _ ?_);rw[Heap.get?_update_ne _ _ _ _ nb];exact hb
 have ok6:=ok H6 old;show wpAny (model prog w) A _ P E {s with heap:=((s.heap.update a (Obj.mapSeq fun _=> #[])).push (seqObj "tuple" vs.toArray 0)).push (seqObj "list" #[] 0)};unfold sortedHeap at h;rw[<-e6] at h ⊢
 dsimp only
 by_cases h2:vs.toArray.size < 2
 · rw[if_pos h2,if_pos h2];refine wpAny_bind (wpAny_pure ?_);rw[StateT.run_pure];refine wpAny_bind (wpAny_pure ?_)
   dsimp only
   refine wpAny_bind (seqEpoch_at ho6 rfl ?_);have ee:(arrOf (SortSt.mk' general' (vs.toArray.zip vs.toArray) #[] 7 none)).map (·.2)=vs.toArray:=bq4 vs;rw[ee];refine wpAny_bind (listUpdate_at ho6 rfl ?_ (ed7 _) (by rw[hsz];omega));simp only[bne_self_eq_false,em0,if_false];refine wpAny_pure (h vs (List.Perm.refl _) ?_)
   match vs,hsz,h2 with
   |[],_,_=>exact List.Pairwise.nil
   |[_],_,_=>exact en7 _ _
   |_::_::_,_,h2=>simp at h2;omega
 · rw[if_neg h2,if_neg h2];refine wpAny_bind (ok6.kind (by omega) _ _ ?_)
   refine wpAny_bind (wpAny_mono (TS.ea3 (s:={s with heap:=H6}) (st:=SortSt.mk' oneType' (vs.toArray.zip vs.toArray) #[] 7 none) (a0:=pairsOf vs) (rk:=fun p=>rk p.1)
     (Q:=fun _ st'=>(arrOf st').Perm (pairsOf vs)/\failedOf st'=none/\TS.Up (fun p=>rk p.1) (arrOf st') 0 (pairsOf vs).size) (dt8 ok6) ⟨Array.Perm.refl _,rfl,rfl⟩ rfl (by rw[pairsOf_size];omega) fun t B u=>⟨B.perm,B.ok,u⟩) ?_ fun _ _ e=>e)
   rintro ⟨⟨⟩,st'⟩ s' ⟨rfl,hp,hf,hu⟩
   dsimp only
   rw[<-hp.size_eq] at hu;obtain ⟨o1,o2⟩:=dp2 hp hu;refine wpAny_bind (seqEpoch_at ho6 rfl ?_);refine wpAny_bind (listUpdate_at ho6 rfl ?_ (ed7 _) (by rw[Array.size_map,hp.size_eq,pairsOf_size];omega));rw[hf];simp only[bne_self_eq_false,em0,if_false];have:=h _ o1 o2;rw[Array.toArray_toList] at this;exact wpAny_pure this
theorem dh0 {l:Addr}{vs:List Value}{rk:Value->Nat}{Q:Value->Shared->Prop}(pl:s.heap.IsList l vs.toArray)(hl:vs.length<=sizeLine)
   (ok:∀h':Heap,(∀b o,b < s.heap.objs.size->s.heap.get? b=some o->h'.get? b=some o)->bj0 prog w A.in1.in1 {s with heap:=h'} rk vs)
   (h:∀out:List Value,out.Perm vs->out.Pairwise (fun x y=>rk x<=rk y)->Q (.ref (s.heap.objs.size+1)) {s with heap:=sortedAll s.heap vs out.toArray}):wpAny (model prog w) A (call (.builtin "sorted") [.ref l]) Q E s:=by
 refine Calls.call_function_entry kind_sorted plain_sorted entry_sorted (args_sorted1 _) ?_;unfold Builtin.«sorted»;refine wpAny_bind (m:=checkCount "sorted" 1 1 _) (wpAny_pure ?_);refine wpAny_bind (collect_list pl ?_ hl);refine wpAny_bind (wpAny_newList ?_ (hsz:=hl))
 have hsz:((s.heap.push (seqObj "list" #[] 0)).update s.heap.objs.size (Obj.mapSeq (· ++vs.toArray))).objs.size=s.heap.objs.size+1:=by
   rw[Heap.size_update,size_push']
 have hoL:(((s.heap.push (seqObj "list" #[] 0)).update s.heap.objs.size (Obj.mapSeq (· ++vs.toArray))).push (seqObj "list" vs.toArray 0)).get? (s.heap.objs.size+1)=some (seqObj "list" vs.toArray 0):=by
   rw[<-hsz];exact Heap.get?_push_size _ rfl
 show wpAny _ _ _ _ _ {s with heap:=((s.heap.push (seqObj "list" #[] 0)).update s.heap.objs.size (Obj.mapSeq (· ++vs.toArray))).push (seqObj "list" vs.toArray 0)};rw[hsz];refine wpAny_bind (wpAny_holding (wpAny_call_entry slot_list_sort ⟨_,hoL,rfl⟩ entry_list_sort (dt9 hoL hl (rk:=rk) (fun h' old=>ok h' fun b o lt e=>old b o (eh2 (ew4 lt)) ?_) fun out o1 o2=>⟨_,rfl,?_⟩) (args_list_sort _)))
 · refine Heap.get?_push_of_some _ ?_;rw[Heap.get?_update_ne _ _ _ _ (eh2 lt)];exact Heap.get?_push_of_some _ e
 · exact wpAny_pure ⟨_,rfl,h out o1 o2⟩
end
end L2
namespace L2
open PySem PySem.Spec PyProof.Rows
section
variable {α:Type}
theorem as8 {p q:α->Bool}(h:∀a,p a=true->q a=true):∀{l:List α} {x:α},x∈l->p x=false->q x=true->l.countP p < l.countP q
 |[],x,hx,_,_=>by cases hx
 |y::l,x,hx,px,qx=>by
  have le:l.countP p<=l.countP q:=List.countP_mono_left fun a _=>h a
  rw[ek4,ek4]
  by_cases e:x=y
  · subst e;rw[px,qx];simp;omega
  · have hx':x∈l:=by
      rcases ee0.mp hx with z|z
      · exact absurd z e
      · exact z
    have:=as8 h hx' px qx
    cases hp:p y with
    |false=>simp;split<;>omega
    |true=>rw[h y hp];simp;omega
def ay2 (lt:α->α->Bool)(l:List α)(x:α):Nat:=l.countP fun y=>lt y x
theorem dh1 {lt:α->α->Bool}(ir:∀a,lt a a=false)(tr:∀a b c,lt a b=true->lt b c=true->lt a c=true)(tot:∀a b,lt a b=false->lt b a=true\/a=b){l:List α}{x y:α}(hx:x∈l)(hy:y∈l):decide (ay2 lt l x < ay2 lt l y)=lt x y:=by
 unfold ay2
 cases h:lt x y with
 |true=>exact decide_eq_true (as8 (fun a ha=>tr a x y ha h) hx (ir x) h)
 |false=>
  refine decide_eq_false ?_
  rcases tot x y h with z|z
  · have:=as8 (fun a ha=>tr a y x ha z) hy (ir y) z;omega
  · rw[z];omega
theorem dh2 {lt:α->α->Bool}(ir:∀a,lt a a=false)(tr:∀a b c,lt a b=true->lt b c=true->lt a c=true){l:List α}{x y:α}(hy:y∈l)(h:ay2 lt l x<=ay2 lt l y):lt y x=false:=by
 cases z:lt y x with
 |false=>rfl
 |true=>
  have:=as8 (l:=l) (fun a ha=>tr a y x ha z) hy (ir y) z;unfold ay2 at h;omega
end
theorem ap4:∀a:List Int,HT.ba5 a a=false
 |[]=>rfl
 |x::a=>by rw[HT.cj1,if_pos rfl];exact ap4 a
theorem bm5:∀a b:List Int,HT.ba5 a b=false->HT.ba5 b a=true\/a=b
 |[],[],_=> .inr rfl
 |[],_::_,h=>by rw[HT.dd7] at h;cases h
 |_::_,[],_=> .inl rfl
 |x::a,y::b,h=>by
  rw[HT.cj1] at h ⊢
  by_cases e:x=y
  · rw[if_pos e] at h;rw[if_pos e.symm]
    rcases bm5 a b h with z|z
    · exact .inl z
    · exact .inr (by rw[e,z])
  · rw[if_neg e] at h;rw[if_neg (fun z=>e z.symm)];have:=of_decide_eq_false h;exact .inl (decide_eq_true (by omega))
theorem bj1:∀a b c:List Int,HT.ba5 a b=true->HT.ba5 b c=true->HT.ba5 a c=true
 |[],[],_,h,_=>by cases h
 |_::_,[],_,h,_=>by cases h
 |_,_::_,[],_,h=>by cases h
 |[],_::_,_::_,_,_=>rfl
 |x::a,y::b,z::c,h,g=>by
  rw[HT.cj1] at h g ⊢
  by_cases e:x=y
  · subst e;rw[if_pos rfl] at h
    by_cases e2:x=z
    · subst e2;rw[if_pos rfl] at g ⊢;exact bj1 a b c h g
    · rw[if_neg e2] at g ⊢;exact g
  · rw[if_neg e] at h;have h1:=of_decide_eq_true h
    by_cases e2:y=z
    · subst e2;rw[if_neg e];exact h
    · rw[if_neg e2] at g;have g1:=of_decide_eq_true g;rw[if_neg (by omega)];exact decide_eq_true (by omega)
section
variable {prog:Program} {w:World} {A:Around} {E:Value->Shared->Prop} {s:Shared}
theorem cs9 (hu:A.units < cLine){x y:Value}{ns ms:List Int}(hx:al2 s.heap x ns)(hy:al2 s.heap y ms){Q:Bool->Shared->Prop}(q:Q (HT.ba5 ns ms) s):wpAny (model prog w) A (oneLt' true x y) Q E s:=by
 obtain ⟨p,xs,n,rfl,ox,ix⟩:=hx;obtain ⟨p2,ys,m,rfl,oy,iy⟩:=hy;rw[oneLt'_eq];simp only[if_true];refine wpAny_bind (wpAny_cRoomFor hu ?_);refine wpAny_bind (wpAny_callSpecialIfBound?_slot (T:="list") ⟨_,ox,rfl⟩ PySem.F.slot_list_lt (call_meets PySem.F.slot_list_lt ⟨_,ox,rfl⟩ PySem.F.entry_list_lt (PySem.F.args_list_lt_2 _ _) (HT.do3 p p2 xs ys n m ns ms ix iy) ⟨⟨ox,oy⟩,?_⟩));exact wpAny_truthy_bool q
def adr:Value->Addr
 | .ref a=>a
 |_=>0
theorem bq6:∀{bs:List Addr} {us:List Value},l8 (bs.map V.ref) us->us=bs.map Value.ref
 |[],us,h=>by cases h;rfl
 |b::bs,us,h=>by
  cases h with
  |cons h1 h2=>
   cases h1;rw[bq6 h2];rfl
theorem bq7:∀bs:List Addr,l8 (bs.map V.ref) (bs.map Value.ref)
 |[]=> .nil
 |b::bs=> .cons rfl (bq7 bs)
theorem cz4 {bs:List Addr}{R:Addr->List Int}(hu:A.units < cLine)(row:∀b∈bs,al2 s.heap (.ref b) (R b)):bj0 prog w A s (fun v=>ay2 HT.ba5 (bs.map R) (R (adr v))) (bs.map Value.ref):=by
 constructor
 · intro h2 Q E q
   match bs,h2,row with
   |[],h2,_=>simp at h2
   |[_],h2,_=>simp at h2
   |b1::b2::bs,_,row=>
    have hr:∀v,v∈Value.ref b1::Value.ref b2::bs.map Value.ref->∃ns,al2 s.heap v ns:=fun v hv=>by
      obtain ⟨b,hb,rfl⟩:=ed2.mp (show v∈(b1::b2::bs).map Value.ref from hv);exact ⟨_,row b hb⟩
    exact cs3 hr q
 · intro x hx y hy Q E q;obtain ⟨b,hb,rfl⟩:=ed2.mp hx;obtain ⟨c,hc,rfl⟩:=ed2.mp hy;refine cs9 hu (row b hb) (row c hc) ?_;have:=dh1 ap4 bj1 bm5 (l:=bs.map R) (ed2.mpr ⟨b,hb,rfl⟩) (ed2.mpr ⟨c,hc,rfl⟩);show Q (HT.ba5 (R b) (R c)) s;rw[<-this];exact q
end
end L2
namespace L2
open PySem PySem.Spec PyProof.Rows
section
variable {X:Cx}
theorem by5 (hu:X.A.in1.in1.units < cLine):W9 X (.builtin "sorted") (fun xs H Q=>∃(p:Addr) (bs:List Addr) (rs:List (List Int)),xs=[.ref p]/\g9 X.K H p (bs.map V.ref)/\m9 H bs rs/\
   ∀(cs:List Addr) (ts:List (List Int)) l,cs.Perm bs->ts.Perm rs->m9 H cs ts->ts.Pairwise (fun r r'=>HT.ba5 r' r=false)->H l=none->Q (.ref l) (c9 H l (.lst (cs.map V.ref)))):=by
 intro pins s σ H xs us Q I r h;obtain ⟨p,bs,rs,rfl,hp,hr,q⟩:=h;obtain ⟨u,rfl,rx⟩:=ak7 r;cases rx;obtain ⟨its,rv,pl,hl⟩:=I.list hp;have ev:=bq6 rv;subst ev
 have rows:∀b∈bs,∃r:List Int,H b=some (.lst (r.map V.int)):=fun b hb=>by
   obtain ⟨j,hj⟩:=ef8.mp hb
   have hjl:j < rs.length:=by rw[<-hr.1];exact (eb9.mp hj).1
   exact ⟨_,hr.2 j b _ hj (eb8 hjl)⟩
 have er:=ck1 hr
 have each:∀h':Heap,(∀b o,b < s.heap.objs.size->s.heap.get? b=some o->h'.get? b=some o)->∀b∈bs,al2 h' (.ref b) (ab2 H b):=by
   intro h' old b hb;obtain ⟨r,e⟩:=rows b hb;obtain ⟨_,its,n,v,g⟩:=(show B0 X.prog X.w H s.heap b (.lst (r.map V.int)) from I.hok b _ e);rw[be4 e];exact ⟨b,its.toArray,n,rfl,old b _ (Heap.lt_size g) g,by simpa using aa9 v⟩
 have hll:(bs.map V.ref).length=bs.length:=eb7 ..
 refine dh0 (rk:=fun v=>ay2 HT.ba5 (bs.map (ab2 H)) (ab2 H (adr v))) pl.isList (by rw[eb7];omega) (fun h' old=>cz4 hu (each h' old)) fun out o1 o2=> ?_
 have eo:out=(out.map adr).map Value.ref:=by
   rw[eh3];refine (eq6 out).symm.trans (eh8 fun v hv=> ?_);obtain ⟨b,_,rfl⟩:=ed2.mp (o1.mem_iff.mp hv);rfl
 have pb:(out.map adr).Perm bs:=by
   have:=o1.map adr;rw[eh3] at this;have e2:bs.map (adr∘Value.ref)=bs:=(eh8 fun b _=>rfl).trans (eq6 bs);rw[e2] at this;exact this
 have st:((out.map adr).map (ab2 H)).Pairwise (fun r r'=>HT.ba5 r' r=false):=by
   rw[eh3];refine el4.mpr (List.Pairwise.imp_of_mem (fun {x y} hx hy h=> ?_) o2);refine dh2 ap4 bj1 (l:=bs.map (ab2 H)) ?_ h;exact ed2.mpr ⟨adr y,pb.mem_iff.mp (ed2.mpr ⟨y,hy,rfl⟩),rfl⟩
 have rw':m9 H (out.map adr) ((out.map adr).map (ab2 H)):=⟨(eb7 ..).symm,fun j a r e1 e2=>by
   rw[ec1,e1] at e2;have:=Option.some.inj e2;obtain ⟨r',e⟩:=rows a (pb.mem_iff.mp (ec8 e1))
   rw[<-this,be4 e];exact e⟩
 have pr:((out.map adr).map (ab2 H)).Perm rs:=by rw[<-er];exact pb.map _
 obtain ⟨e,he⟩:=sortedAll_at s.heap (bs.map Value.ref) out.toArray;refine ⟨.ref (s.heap.objs.size+1),_,I.laid (t':=s.toks) (fun _ _ q=>sortedAll_old q) (er9 _) (show B0 X.prog X.w _ _ _ (.lst ((out.map adr).map V.ref)) from ⟨by rw[eb7,pb.length_eq];omega,out,e,?_,he⟩),rfl,q _ _ _ pb pr rw' st (I.hok.fresh (er9 _))⟩;have:=bq7 (out.map adr);rw[<-eo] at this;exact this
variable {e:Expr} {t:TA} {p pos kpos:Pos}
def cz5 (K:PySem.W.Frag)(t:TA):TE:=tCB (fun xs H Q=>∃(p:Addr) (bs:List Addr) (rs:List (List Int)),xs=[.ref p]/\g9 K H p (bs.map V.ref)/\m9 H bs rs/\
 ∀(cs:List Addr) (ts:List (List Int)) l,cs.Perm bs->ts.Perm rs->m9 H cs ts->ts.Pairwise (fun r r'=>HT.ba5 r' r=false)->H l=none->Q (.ref l) (c9 H l (.lst (cs.map V.ref)))) t
theorem cd5 (hu:X.A.units+1+1 < cLine)(hm:X.mg "sorted"=none)(ha:PA X [e] t)(hg:Gl X "sorted":=by rfl)(he:starEach [e] X.env=(false,eval e X.env)::starEach [] X.env:=by rfl):
 PE X (.Call (.Name "sorted" p) [e] [] pos) (cz5 X.K t):=V6 (by5 (by simpa [Around.in1] using hu)) hg hm ax6 ha (by decide) (by decide) he rfl
end
end L2
namespace Mth
open L2 (Y0)
def ck8 (rs:List (List Int)):Prop:=rs.Pairwise fun r r'=>HT.ba5 r' r=false
theorem as9:∀{a b:List (List Int)},a.Perm b->ck8 a->ck8 b->a=b
 |[],b,p,_,_=>(List.Perm.nil_eq p)
 |r::a,[],p,_,_=>absurd p.length_eq (by simp)
 |r::a,q::b,p,ha,hb=>by
  have h1:=ep6.mp ha;have h2:=ep6.mp hb
  have e:r=q:=by
    rcases ee0.mp (p.mem_iff.mp ec5) with z|z
    · exact z
    · rcases ee0.mp (p.mem_iff.mpr (ec5:q∈q::b)) with y|y
      · exact y.symm
      · have g1:=h2.1 r z;have g2:=h1.1 q y
        rcases L2.bm5 r q g1 with u|u
        · rw[g2] at u;cases u
        · exact u
  subst e;rw[as9 (List.Perm.cons_inv p) h1.2 h2.2]
end Mth
namespace L2
open PySem PySem.Spec PyProof.Rows
def at1 (n k st:Nat):List Nat:=(ef4 ((n - k+st - 1)/st)).map fun i=>k+st*i
def ab3 (xs:List V)(k st:Nat):List V:=(at1 xs.length k st).filterMap fun i=>xs[i]?
theorem bq8:∀{xs:List V} {its:List Value},l8 xs its->∀i:Nat,(xs[i]? =none/\its[i]? =none)\/∃x v,xs[i]? =some x/\its[i]? =some v/\o7 x v
 |[],_,h,i=>by cases h;exact .inl ⟨rfl,rfl⟩
 |x::xs,_,h,i=>by
  cases h with
  |cons h1 h2=>
   cases i with
   |zero=>exact .inr ⟨_,_,rfl,rfl,h1⟩
   |succ i=>exact bq8 h2 i
theorem ay3 {xs:List V}{its:List Value}(r:l8 xs its):∀idx:List Nat,l8 (idx.filterMap fun i=>xs[i]?) (idx.filterMap fun i=>its[i]?)
 |[]=> .nil
 |i::idx=>by
  rcases bq8 r i with ⟨e1,e2⟩|⟨x,v,e1,e2,rel⟩
  · rw[ex1 e1,ex1 e2];exact ay3 r idx
  · rw[ex2 e1,ex2 e2];exact .cons rel (ay3 r idx)
theorem ck9 {its:List Value}{k st:Nat}(hk:k<=its.length)(hs:0 < st):slicePick its.toArray (some (k:Int)) none (some (st:Int))=((at1 its.length k st).filterMap fun i=>its[i]?).toArray:=by
 unfold slicePick
 have hb:sliceBounds (some (k:Int)) none (some (st:Int)) its.toArray.size=((k:Int),(its.length:Int),(st:Int)):=by
   simp only[sliceBounds,Option.getD_some,ed4];rw[if_pos (show (st:Int) > 0 by omega),if_neg (show ¬(k:Int) < 0 by omega),if_pos (show (st:Int) > 0 by omega)]
   congr 1
   omega
 rw[hb]
 congr 1
 have hr:sliceRange (k:Int) (its.length:Int) (st:Int)=at1 its.length k st:=by
   unfold sliceRange at1
   have hc:(if (st:Int) > 0 then (if (k:Int) < (its.length:Int) then ((its.length:Int) - (k:Int)+(st:Int) - 1)/(st:Int) else 0) else (if (k:Int) > (its.length:Int) then ((k:Int) - (its.length:Int) - (st:Int) - 1)/(-(st:Int)) else 0)).toNat=(its.length - k+st - 1)/st:=by
     rw[if_pos (show (st:Int) > 0 by omega)]
     split
     · rename_i h;rw[show (its.length:Int) - (k:Int)+(st:Int) - 1=((its.length - k+st - 1:Nat):Int) by omega,<-ex7,eg3]
     · rename_i h;rw[show its.length - k+st - 1=st - 1 by omega,eu1 (by omega)];rfl
   simp only[hc]
   refine eh8 fun i _=> ?_
   rw[<-eg2,<-eu7,eg3]
 rw[hr]
 have e:(fun i:Nat=>its.toArray[i]?)=fun i:Nat=>its[i]? :=by funext i;simp
 rw[e]
theorem ct0 (xs:List V)(k st:Nat)(hs:0 < st)(hk:k<=xs.length):(ab3 xs k st).length<=xs.length:=by
 unfold ab3 at1;refine ed3 (List.length_filterMap_le _ _) ?_;rw[eb7,ee9]
 rcases Nat.eq_or_lt_of_le hk with e|e
 · rw[e,em4,ej5,eu1 (by omega)];exact ed7 _
 · refine ed3 ?_ (Nat.sub_le xs.length k);have hm:xs.length - k<=(xs.length - k)*st:=ef9 _ hs;refine Nat.div_le_of_le_mul ?_;rw[ei2];obtain ⟨d,hd⟩:∃d,xs.length - k=d+1:=⟨xs.length - k - 1,by omega⟩;rw[hd,en8,ev8];have:d<=d*st:=ef9 _ hs;omega
variable {X:Cx}
end L2
namespace L2
open PySem PySem.Spec PyProof PyProof.Rows
def du0 (i j:Int):Prop:=i.natAbs < 2^20000/\j.natAbs < 2^20000
theorem dh3 {i j:Int}{n:Nat}(hn:n<=2^20)(h1:i.natAbs < 2^n)(h2:j.natAbs < 2^n):IntMulOk i j:=by
 refine IntMulOk.of_bits ?_ ?_
 · exact ed3 (PySem.intBits_le_iff.mpr h1) hn
 · exact ed3 (PySem.intBits_le_iff.mpr h2) hn
theorem P7 {X:Cx}:O7 X (binaryOp .Mult) (rI du0 fun i j=> .int (i*j)):=opI fun _ _ _ _ _ _ _ hc q=>mul_int q (dh3 (by decide) hc.1 hc.2)
end L2
namespace L2
open PySem PySem.Spec PyProof PyProof.Rows
open PySem.Builtin PySem.Builtin.Str PySem.Builtin.BaseException PySem.Builtin.Exceptions
section
variable {X:Cx}
structure dz4 (K:PySem.W.Frag)(C:Addr):Prop where
 str:PySem.W.findIn K (.ref C) "__str__"=some (some (.builtin "BaseException.__str__"))
 bex:PySem.W.mroIn K C (.type "BaseException")=some true
end
end L2
namespace L2
open PySem PySem.Spec PyProof.Rows
section
variable {P:Program} {w:World} {K:PySem.W.Frag} {mg:Str->Option Value} {base h:Heap} {x:Str} {st:Stmt} {f:Addr} {fd:FuncData} {ps:List Str} {k:Nat} {sp:Sp}
def Fu (K:PySem.W.Frag)(x:Str)(st:Stmt)(f:Addr):Prop:=∃fd,PySem.W.nsIn K mainGlobals x=some (some (.ref f))/\E7 K x x st f fd
theorem du1 {oc:Value}{od an:Option Addr}{osl:Array (Option Value)}{kV doc pm cdv ct:Value}(a:PySem.W.nsIn K mainGlobals x=some (some (.ref f)))(l:K.lookup f=some ⟨oc,od,.func (PySem.W.fnOf x x (ah0 st) (Z8 st) (j6 st) .none kV doc pm an cdv ct),osl⟩)
 (c:PySem.W.codeIn K cdv x=true) (k:PySem.W.keepIn K (.ref f)=true):Fu K x st f:=⟨_,a,dm9 l c k⟩
theorem i9 (X:K.In h)(G:h.Ns mainGlobals mg)(a:PySem.W.nsIn K mainGlobals x=some (some (.ref f)))(F:E7 K x x st f fd)(b:ag7 K fd ps [])(ok:o8 P w K mg base G2 k f fd ps sp):o5 P w K mg base x k ps sp:=⟨f,fd,PySem.W.mg_of X G a,F.kp,b,ok⟩
theorem cg4 (X:K.In h)(G:h.Ns mainGlobals mg)(a:PySem.W.nsIn K mainGlobals x=some (some (.ref f)))(F:E7 K x x st f fd)(b:ag7 K fd ps [])(ok:o8 P w K mg base (CX1 P w) k f fd ps sp):ay0 P w K mg base x k ps sp:=⟨f,fd,PySem.W.mg_of X G a,F.kp,b,ok⟩
def Fre (K:PySem.W.Frag):List Str->Prop
 |[]=>True
 |x::l=>PySem.W.nsIn K mainGlobals x=some none/\Fre K l
structure ClF (K:PySem.W.Frag)(T:Addr)(x:Str)(q:Addr):Prop where
 n:PySem.W.nsIn K mainGlobals x=some (some (.ref q))
 e:PySem.W.excIn K q veB "ValueError.__new__"=true
 g:PySem.W.findIn K (.ref q) "__getattribute__"=some (some (.builtin "BaseException.__getattribute__"))
 h:PySem.W.findIn K (.ref q) "__getattr__"=some none
 c:PySem.W.findIn K (.ref q) "__class__"=some (some (.builtin "object.__class__"))
 b:PySem.W.mroIn K q (.type "BaseException")=some true
 o:PySem.W.mroIn K q (.type "object")=some true
 i:PySem.W.isClsIn K q=true
 t:PySem.W.typeIn K (.ref q)=some (.type "type")
 u:PySem.W.mroIn K q (.ref T)=some true
 v:PySem.W.mroIn K q (.type "ValueError")=some true
 s:PySem.W.findIn K (.ref q) "__str__"=some (some (.builtin "BaseException.__str__"))
def bm6 (K:PySem.W.Frag)(T:Addr):List (Str×Addr)->Prop
 |[]=>True
 |(x,q)::l=>ClF K T x q/\bm6 K T l
def PrI (K:PySem.W.Frag)(i:Nat)(a:Addr):Nat->List (Str×Addr)->Prop
 |_,[]=>True
 |j,(_,b)::l=>PySem.W.mroIn K a (.ref b)=some (Nat.beq i j)/\PrI K i a (j+1) l
def bm7 (K:PySem.W.Frag)(all:List (Str×Addr)):Nat->List (Str×Addr)->Prop
 |_,[]=>True
 |i,(_,a)::l=>PrI K i a 0 all/\bm7 K all (i+1) l
theorem bm6.get {T:Addr}:∀{cs:List (Str×Addr)},bm6 K T cs->∀p∈cs,ClF K T p.1 p.2
 |(x,q)::l,h,p,hp=>by
  rcases ee0.mp hp with rfl|hp
  · exact h.1
  · exact bm6.get h.2 p hp
theorem PrI.get {i:Nat}{a:Addr}:∀{l:List (Str×Addr)} {j0:Nat},PrI K i a j0 l->∀j q,l[j]? =some q->PySem.W.mroIn K a (.ref q.2)=some (Nat.beq i (j0+j))
 |(x,b)::l,j0,h,0,q,e=>by
  cases e;exact h.1
 |(x,b)::l,j0,h,j+1,q,e=>by
  have:=PrI.get h.2 j q e;rw[this,show j0+1+j=j0+(j+1) by omega]
theorem bm7.get {all:List (Str×Addr)}:∀{l:List (Str×Addr)} {i0:Nat},bm7 K all i0 l->∀i p,l[i]? =some p->PrI K (i0+i) p.2 0 all
 |(x,b)::l,i0,h,0,p,e=>by
  cases e;exact h.1
 |(x,b)::l,i0,h,i+1,p,e=>by
  have:=bm7.get h.2 i p e;rw[show i0+1+i=i0+(i+1) by omega] at this;exact this
theorem ct1 {T:Addr}{cs:List (Str×Addr)}(X:K.In h)(G:h.Ns mainGlobals mg)(uT:PySem.W.nsIn K mainGlobals "TurnError"=some (some (.ref T)))(uTb:PySem.W.mroIn K T (.type "BaseException")=some true)(uTc:PySem.W.isClsIn K T=true)(uTt:PySem.W.typeIn K (.ref T)=some (.type "type"))
   (uG:PySem.W.specialIn K (.builtin "object.__class__") "__get__"=some (some (.builtin "getset_descriptor.__get__"))) (uK:PySem.W.takesIn K (.builtin "object.__class__")=some true) (uC:bm6 K T cs) (uP:bm7 K cs 0 cs) (nd:(cs.map (·.1)).Nodup):bi5 K mg T cs:=by
 refine ⟨PySem.W.mg_of X G uT,fun p hp=> ?_,fun p hp=> ?_,fun p hp=> ?_,fun p hp=> ?_,fun p hp q hq=> ?_⟩
 · exact ⟨PySem.W.mg_of X G (uC.get p hp).n,(uC.get p hp).e⟩
 · have c:=uC.get p hp;exact dg4 c.g c.h c.c uG uK c.b c.o c.i
 · exact dg3 uTb uTc uTt (uC.get p hp).u
 · exact do2 (uC.get p hp).v
 · have c:=uC.get q hq;obtain ⟨i,hi⟩:=List.getElem?_of_mem hp;obtain ⟨j,hj⟩:=List.getElem?_of_mem hq
   have e:∀{k:Nat} {r:Str×Addr},cs[k]? =some r->PySem.W.mroIn K p.2 (.ref r.2)=some (Nat.beq i k):=fun {k r} hr=>by
     have:=(uP.get i p hi).get k r hr;rw[ej5,ej5] at this;exact this
   have eb:decide (p.1=q.1)=Nat.beq i j:=by
     by_cases z:i=j
     · subst z;rw[hi] at hj;cases hj;rw[decide_eq_true rfl,Nat.beq_refl]
     · have:Nat.beq i j=false:=by
         cases y:Nat.beq i j with
         |false=>rfl
         |true=>exact absurd (Nat.eq_of_beq_eq_true y) z
       rw[this]
       refine decide_eq_false fun y=>z ?_
       have i1:i < (cs.map (·.1)).length:=by rw[eb7];exact (eb9.mp hi).1
       refine (List.getElem?_inj i1 nd).mp ?_;rw[ec1,ec1,hi,hj];exact congrArg some y
   rw[eb]
   refine dg2 c.i c.t (e hj) fun z=> ?_
   have a:=e hi;rw[z] at a;have b:=e hj;rw[z,a,Nat.beq_refl] at b;exact (Option.some.inj b).symm
end
end L2
namespace My
open PySem L2 Mth
def top (i:Nat):Stmt:=PySem.Challenge.pw_turnroots_k19_all_roots_told.main.body.getD i (.Pass ⟨0,0,0,0⟩)
abbrev at2:Stmt:=top 14
abbrev W2:Stmt:=top 15
abbrev Y8:Stmt:=top 16
abbrev ab4:Stmt:=top 17
abbrev am5:Stmt:=top 18
abbrev ai9:Stmt:=top 19
abbrev W3:Stmt:=top 20
abbrev Z3:Stmt:=top 21
abbrev at3:Stmt:=top 22
abbrev ab5:Stmt:=top 23
abbrev ay4:Stmt:=top 26
abbrev ad7:Stmt:=top 27
abbrev aj0:Stmt:=top 29
abbrev ab6:Stmt:=top 31
abbrev Z4:Stmt:=top 32
abbrev af8:Stmt:=top 33
abbrev Z5:Stmt:=top 34
abbrev am6:Stmt:=top 35
abbrev X4:Stmt:=top 36
abbrev ae4:Stmt:=top 37
abbrev af9:Stmt:=top 39
abbrev at4:Stmt:=top 40
abbrev at5:Stmt:=top 41
abbrev at6:Stmt:=top 42
abbrev au0:Stmt:=top 43
abbrev bm8:Stmt:=top 44
abbrev aj1:Stmt:=top 45
abbrev am7:Stmt:=top 46
abbrev aj2:Stmt:=top 47
abbrev ag0:Stmt:=top 48
abbrev aj3:Stmt:=top 49
abbrev am8:Stmt:=top 50
abbrev ad8:Stmt:=top 51
abbrev am9:Stmt:=top 52
abbrev an0:Stmt:=top 53
abbrev au1:Stmt:=top 54
abbrev an1:Stmt:=top 55
abbrev Z6:Stmt:=top 56
abbrev an2:Stmt:=top 57
abbrev W4:Stmt:=top 58
abbrev bb4:Stmt:=top 59
end My
namespace My
open PySem L2 Mth
structure Bl (mg:Str->Option Value):Prop where
 len:mg "len"=none
 isi:mg "isinstance"=none
 int:mg "int"=none
 bool:mg "bool"=none
 list:mg "list"=none
 range:mg "range"=none
 sum:mg "sum"=none
 min:mg "min"=none
 max:mg "max"=none
 enum:mg "enumerate"=none
 zip:mg "zip"=none
 sorted:mg "sorted"=none
 tuple:mg "tuple"=none
 str:mg "str"=none
 repr:mg "repr"=none
 all:mg "all"=none
 any:mg "any"=none
 set:mg "set"=none
 dict:mg "dict"=none
 ve:mg "ValueError"=none
section
variable {P:Program} {w:World} {K:PySem.W.Frag} {mg:Str->Option Value} {base:Heap}
def bb5 (K:PySem.W.Frag):Sp:=fun vs H Q _=>∃x t b1 b2,vs=[x]/\X8 K H x t/\PySem.W.kitOne K t (.type "int")=some b1/\PySem.W.kitOne K t (.type "bool")=some b2/\Q (.bl (b1&& !b2)) H
theorem dh4:m8 ["thing"] ["thing"] (j6 at2):=⟨rfl,rfl,rfl,by decide+kernel,rfl,by decide+kernel,by decide+kernel⟩
theorem cz6 {f:Addr}{fd:FuncData}(F:E7 K "is_whole" "is_whole" at2 f fd)(B:Bl mg):o8 P w K mg base G2 1 f fd ["thing"] (bb5 K):=by
 refine F.ok dh4 (fun vs H Q E h=> ?_) (fun cdv A outer s H vs Q E hr h=> ?_)
 · obtain ⟨x,t,b1,b2,rfl,_⟩:=h;rfl
 · obtain ⟨x,t,b1,b2,rfl,ty,e1,e2,q⟩:=h;refine ⟨_,e8 (j9 (dk5 (ai3 B.isi (c5 (pv 0) (c5 (bw3 B.int) c6))) (cm8 (dk6 (ai3 B.isi (c5 (pv 0) (c5 (bp9 B.bool) c6))))))),?_⟩
   try dsimp only[y7,Cx.nox,Cx.wish]
   refine ⟨x,rfl,x,"int",t,b1,rfl,ty,e1,b1,rfl,?_⟩
   cases b1 with
   |true=>
    refine O8 ⟨x,rfl,x,"bool",t,b2,rfl,ty,e2,b2,rfl,?_⟩;exact q
   |false=>exact B6 q
def be9:Sp:=fun vs H Q _=>∃(a:Addr) (ns:List Int),vs=[.ref a]/\H a=some (.lst (ns.map V.int))/\∀(b:Bool) (H':Hp),e7 H H'->(b=true↔ns.length<=40/\x8 ns)->Q (.bl b) H'
theorem bf0:m8 ["thing","seen","place"] ["thing"] (j6 ay4):=⟨rfl,rfl,rfl,by decide+kernel,rfl,by decide+kernel,by decide+kernel⟩
theorem ct2 {f:Addr}{fd:FuncData}(F:E7 K "is_turn" "is_turn" ay4 f fd)(B:Bl mg)(mt:∃t,mg "MOST_THINGS"=some (.int 40 t))(cW:o5 P w K mg base "is_whole" 1 ["thing"] (bb5 K)):o8 P w K mg base G2 2 f fd ["thing"] be9:=by
 refine F.ok bf0 (fun vs H Q E h=> ?_) (fun cdv A outer s H vs Q E hr h=> ?_)
 · obtain ⟨a,ns,rfl,_⟩:=h;rfl
 · obtain ⟨a,ns,rfl,ha,k⟩:=h;obtain ⟨tk,mt⟩:=mt;have hu:=Q3 hr
   refine ⟨_,c7 (B5 (aa8 (N8 (O6 (ai3 B.isi (c5 (pv 0) (c5 (ak9 B.list) c6))))) (aa7 (m7 ba4 (A0 B.len (c5 (pv 0) c6)) (O4 (v:= .int 40) (by rfl) mt ⟨tk,rfl⟩) (n0 _)))).pt (e8 (j9 M9)) r6)
     (c7 (i6 (i:=1) bf0.nd rfl (Or.inl rfl) Z0)
     (c7 (o9 PassesOwn.never rfl (E2 (pv 0)) (i8 (i:=2) bf0.nd rfl (Or.inl rfl))
       (c7 (B5 (aa8 (N8 (O6 (j7 cW hr (c5 (pv 2) c6)))) (aa8 (m7 bh2 (pv 2) g8 (n0 _)) (aa8 (m7 ci9 (pv 2) (A0 B.len (c5 (pv 0) c6)) (n0 _)) (aa7 (bh0 (dm4 hu (pv 2) (pv 1))))))).pt (e8 (j9 M9)) r6)
       (e8 (ao2 hu (pv 1) (pv 2) M9 rfl))))
     (e8 (j9 M9)))),?_⟩
   try dsimp only[y7,Cx.nox,Cx.wish]
   refine ⟨_,rfl,_,"list",_,true,rfl,.lst ha,Z1 K "list",true,rfl,?_⟩;refine B6 ⟨_,rfl,a,_,rfl,.inl (g9.of ha),_,_,rfl,rfl,_,rfl,?_⟩;rw[eb7];refine ab0 (fun h40=> ?_) (fun h40=> ?_)
   · have h40:(40:Int) < (ns.length:Int):=of_decide_eq_true h40;exact k false H (e7.refl H) ⟨fun z=>(by cases z),fun z=>(by have:=z.1;omega)⟩
   · have h40:¬(40:Int) < (ns.length:Int):=fun z=>h40 (decide_eq_true z)
     intro d hd;have nad:a≠d:=g7 ha hd
     have ha1:(c9 H d (.dK [])) a=some (.lst (ns.map V.int)):=by rw[g6 nad];exact ha
     refine ⟨_,rfl,a,rfl,⟨_,g9.of ha1⟩,K2 (K:=K) (a:=a) (xs:=ns.map V.int) (fun i σ H2=>∃v:Option V,σ=[some (.ref a),some (.ref d),v]/\e7 H H2/\H2 d=some (.dK (M3 (ns.take i)))/\(ns.take i).Nodup/\∀x∈ns.take i,0<=x/\x < ns.length)
       ⟨none,rfl,e7.upd_new hd,c8,ei6,fun x hx=>by simp at hx⟩ (fun i σ H2 _ ⟨_,_,s2,_⟩=>g9.of (s2 a _ ha)) ?_ ?_⟩
     · rintro i y σ H2 hi ⟨v,rfl,s2,h2,nd,bd⟩;obtain ⟨z,hz,rfl⟩:=R1 hi;have ha2:=s2 a _ ha;have hil:i < ns.length:=(eb9.mp hz).1;refine ⟨_,rfl,.int z,_,true,false,rfl,.int z,Z1 K "int",ai2 K,_,rfl,?_⟩;refine B6 ⟨_,rfl,_,_,rfl,rfl,_,rfl,?_⟩;refine ab0 (fun hz0=> ?_) (fun hz0=> ?_)
       · have hz0:z < 0:=of_decide_eq_true hz0;exact O8 (k false H2 s2 ⟨fun q=>(by cases q),fun q=>(by have:=q.2.lo z (ec8 hz);omega)⟩)
       have hz0:¬z < 0:=fun q=>hz0 (decide_eq_true q)
       refine ⟨_,rfl,_,rfl,a,_,rfl,.inl (g9.of ha2),_,_,rfl,rfl,_,rfl,?_⟩;rw[eb7];refine ab0 (fun hz1=> ?_) (fun hz1=> ?_)
       · have hz1:(ns.length:Int)<=z:=of_decide_eq_true hz1;exact O8 (k false H2 s2 ⟨fun q=>(by cases q),fun q=>(by have:=q.2.hi z (ec8 hz);omega)⟩)
       have hz1:¬(ns.length:Int)<=z:=fun q=>hz1 (decide_eq_true q)
       refine ⟨_,rfl,_,rfl,d,_,rfl,X9.k (k:=Sum.inl z) h2,_,rfl,?_⟩
       by_cases hm:z∈ns.take i
       · rw[ar4 hm];refine O8 (k false H2 s2 ⟨fun q=>(by cases q),fun q=> ?_⟩);exfalso;obtain ⟨j,hj⟩:=ef8.mp hm
         have hjl:j < i:=by
           have:=(eb9.mp hj).1;rw[ee1] at this;omega
         rw[ei7 hjl] at hj;have e1:=(eb9.mp hj).2;have e2:=(eb9.mp hz).2;exact ee7.mp (ed5.mp q.2.nd) j i (by omega) hil hjl (by rw[e1,e2])
       · rw[ai4 hm];refine B6 ⟨_,rfl,_,rfl,d,_,rfl,ar0.k (k:=Sum.inl z) h2 (t5 (by unfold M3;rw[eb7,ee1];omega)),?_⟩
         have hds:∀b o,H b=some o->b≠d:=fun b o e=>g7 e hd
         refine ⟨some (.int z),rfl,fun b o e=>by rw[g6 (hds b o e)];exact s2 b o e,?_,?_,?_⟩
         · rw[ax2 hm,c8,j8 hz]
         · rw[j8 hz];exact ao3 nd hm
         · intro x hx;rw[j8 hz] at hx
           rcases ed0.mp hx with q|q
           · exact bd x q
           · have:x=z:=by simpa using q
             omega
     · rintro σ H2 ⟨v,rfl,s2,h2,nd,bd⟩;rw[eb7,ef3] at nd bd;refine k true H2 s2 ⟨fun _=>⟨by omega,⟨nd,fun x hx=>(bd x hx).1,fun x hx=>(bd x hx).2⟩⟩,fun _=>rfl⟩
end
end My
namespace My
open PySem L2 Mth
section
variable {P:Program} {w:World} {K:PySem.W.Frag} {mg:Str->Option Value} {base:Heap}
def L4 (H:Hp)(a:Addr)(p:List Int):Prop:=H a=some (.lst (p.map V.int))/\x8 p/\p.length<=40
end
end My
namespace My
open PySem L2 Mth
section
variable {P:Program} {w:World} {K:PySem.W.Frag} {mg:Str->Option Value} {base:Heap}
def by6:Sp:=fun vs H Q _=>∃(a:Addr) (ns:List Int),vs=[.ref a]/\L4 H a ns/\∀(H':Hp),e7 H H'->Q .non H'
theorem dp4:m8 ["thing"] ["thing"] (j6 ad7):=⟨rfl,rfl,rfl,by decide+kernel,rfl,by decide+kernel,by decide+kernel⟩
theorem dh5 {f:Addr}{fd:FuncData}(F:E7 K "must_be_turn" "must_be_turn" ad7 f fd)(cT:o5 P w K mg base "is_turn" 2 ["thing"] be9):o8 P w K mg base G2 3 f fd ["thing"] by6:=by
 refine F.ok dp4 (fun vs H Q E h=> ?_) (fun cdv A outer s H vs Q E hr h=> ?_)
 · obtain ⟨a,ns,rfl,_⟩:=h;rfl
 · obtain ⟨a,ns,rfl,⟨ha,ht,hl⟩,k⟩:=h;refine ⟨_,e8 (B5 (N8 (O6 (j7 cT hr (c5 (pv 0) c6)))) (e8 bd9) r6),?_⟩
   try dsimp only[y7,Cx.nox,Cx.wish]
   refine ⟨_,rfl,a,ns,rfl,ha,fun b H' s' hb=>⟨b,rfl,?_⟩⟩;have:b=true:=hb.mpr ⟨hl,ht⟩;subst this;exact B6 (k H' s')
end
end My
namespace My
open PySem L2 Mth
def bt8 (H:Hp)(l:Addr):Nat:=match H l with
 |some (.lst xs)=>xs.length
 |_=>0
theorem au2 {H:Hp}{l:Addr}{xs:List V}(h:H l=some (.lst xs)):bt8 H l=xs.length:=by unfold bt8;rw[h]
end My
namespace My
open PySem L2 Mth
section
variable {P:Program} {w:World} {K:PySem.W.Frag} {mg:Str->Option Value} {base:Heap}
def aa3:Sp:=fun vs H Q _=>∃(a:Addr) (p:List Int),vs=[.ref a]/\L4 H a p/\
 ∀(l:Addr) (as:List Addr) (rs:List (List Int)) (H':Hp),H l=none->e7 H H'->H' l=some (.lst (as.map V.ref))->m9 H' as rs->G0 p p.length rs->(∀b∈as,H b=none)->as.Nodup->l∉as->Q (.ref l) H'
theorem O2 {H:Hp}{as:List Addr}{rs:List (List Int)}{e:Addr}{r:List Int}(h:m9 H as rs)(he:H e=some (.lst (r.map V.int))):m9 H (as++[e]) (rs++[r]):=by
 refine ⟨by rw[ec6,ec6,h.1];rfl,fun j b q h1 h2=> ?_⟩
 by_cases hj:j < as.length
 · rw[ee4 hj] at h1;rw[ee4 (by rw[<-h.1];exact hj)] at h2;exact h.2 j b q h1 h2
 · rw[ee8 (by omega)] at h1;rw[ee8 (by rw[<-h.1];omega),<-h.1] at h2
   have hj0:j - as.length=0:=by
     have:=(eb9.mp h1).1
     simpa using this
   rw[hj0] at h1 h2;cases h1;cases h2;exact he
theorem t6 {H H':Hp}{as:List Addr}{rs:List (List Int)}(h:m9 H as rs)(k:∀b∈as,∀o,H b=some o->H' b=some o):m9 H' as rs:=
 ⟨h.1,fun j a r h1 h2=>k a (ec8 h1) _ (h.2 j a r h1 h2)⟩
theorem W5 {H:Hp}{as:List Addr}{rs:List (List Int)}(h:m9 H as rs){b:Addr}(hb:b∈as):∃r:List Int,H b=some (.lst (r.map V.int)):=by
 obtain ⟨j,hj⟩:=ef8.mp hb;have hjl:=(eb9.mp hj).1;exact ⟨_,h.2 j b (rs[j]'(by rw[<-h.1];exact hjl)) hj (eb8 _)⟩
theorem ab7 {p:List Int}{i:Nat}{rs:List (List Int)}(tp:x8 p)(h:G0 p i rs):rs.flatten.length<=p.length:=by
 refine O9 h.nd fun x hx=> ?_
 obtain ⟨r,hr,hxr⟩:=ee6.mp hx;obtain ⟨y,L,a,b,rfl,_⟩:=h.ring r hr;exact V8 tp a x hxr
theorem ad9 {p:List Int}{i:Nat}{rs:List (List Int)}(h:G0 p i rs):rs.length<=rs.flatten.length:=by
 have:∀l:List (List Int),(∀r∈l,1<=r.length)->l.length<=l.flatten.length:=by
   intro l
   induction l with
   |nil=>intro _;exact ec0 _
   |cons a r ih=>
    intro h;have h1:=h a ec5
    have h2:=ih fun x hx=>h x (ec7 _ hx)
    rw[eg7,ec6,eg9];omega
 refine this rs fun r hr=> ?_
 obtain ⟨y,L,a,b,rfl,_⟩:=h.ring r hr;rw[q9];exact b.pos
end
end My
namespace My
open PySem L2 Mth
section
variable {P:Program} {w:World} {K:PySem.W.Frag} {mg:Str->Option Value} {base:Heap}
def by7:Sp:=fun vs H Q _=>∃(a:Addr) (p:List Int) (x:Int),vs=[.ref a,.int x]/\L4 H a p/\In p x/\
 ∀(l:Addr) (L:Nat) (H':Hp),H l=none->e7 H H'->K7 p x L->L<=40->H' l=some (.lst ((l6 p x L).map V.int))->Q (.ref l) H'
theorem bj2:m8 ["p","first","ring","thing"] ["p","first"] (j6 am5):=⟨rfl,rfl,rfl,by decide+kernel,rfl,by decide+kernel,by decide+kernel⟩
theorem dh6 {f:Addr}{fd:FuncData}(F:E7 K "walk_ring" "walk_ring" am5 f fd):o8 P w K mg base G2 1 f fd ["p","first"] by7:=by
 refine F.ok bj2 (fun vs H Q E h=> ?_) (fun cdv A outer s H vs Q E hr h=> ?_)
 · obtain ⟨a,p,x,rfl,_⟩:=h;rfl
 · obtain ⟨a,p,x,rfl,⟨ha,tp,lp⟩,hx,q⟩:=h
   refine ⟨_,c7 (i6 (i:=2) bj2.nd rfl (Or.inl rfl) (o6 (c5 (pv 1) c6)))
     (c7 (i6 (i:=3) bj2.nd rfl (Or.inl rfl) (J2 B9 (pv 0) (pv 1) (fun _ _=>rfl)))
     (c7 (ac5 PassesOwn.never (m7 bh1 (pv 3) (pv 1) (n0 _)) (c7 (C3 (C7 (pv 2) (c5 (pv 3) c6))) (e8 (i6 (i:=3) bj2.nd rfl (Or.inl rfl) (J2 B9 (pv 0) (pv 3) (fun _ _=>rfl))))))
     (e8 (j9 (pv 2))))),?_⟩
   try dsimp only[y7,Cx.nox,Cx.wish]
   refine ⟨_,rfl,(by show 1<=sizeLine;decide),fun l hl=> ?_⟩;have nal:a≠l:=g7 ha hl
   have hal:(c9 H l (.lst [.int x])) a=some (.lst (p.map V.int)):=by rw[g6 nal];exact ha
   refine ⟨_,rfl,_,rfl,a,_,_,_,rfl,rfl,g9.of hal,X0 hx.1 hx.2,?_⟩
   refine be0 (fun σ H2=>∃m:Nat,σ=[some (.ref a),some (.int x),some (.ref l),some (.int (it p m x))]/\1<=m/\H2 l=some (.lst ((l6 p x m).map V.int))/\e7 H H2/\∀i,0 < i->i < m->it p i x≠x) (fun _ H2=>p.length+1 - bt8 H2 l)
     ⟨1,rfl,ec0 _,c8,e7.upd_new hl,fun i i0 i1=>by omega⟩ ?_ ?_
   · rintro σ H2 ⟨m,rfl,m1,h2l,s2,hne⟩;have ha2:=s2 a _ ha;refine ⟨_,rfl,_,rfl,rfl,_,rfl,?_⟩
     by_cases hb:it p m x=x
     · refine bt7 (congrArg V.int hb) ?_;exact ⟨_,rfl,q l m H2 hl s2 ⟨by omega,hb,hne⟩ (by have:=O0 tp hx hne;omega) h2l⟩
     · have hb':¬V.int (it p m x)=V.int x:=fun z=>hb (V.int.inj z)
       rw[decide_eq_false hb'];refine O8 ?_
       have hne':∀i,0 < i->i < m+1->it p i x≠x:=fun i i0 i1=>by
         by_cases e:i=m
         · rw[e];exact hb
         · exact hne i i0 (by omega)
       have hbd:=O0 tp hx hne';refine ⟨_,rfl,.inl ⟨rfl,_,g9.of h2l⟩,_,rfl,l,_,_,rfl,rfl,h2l,t5 (by rw[eb7,q9];omega),?_⟩;have hi:=P4 tp hx m;refine ⟨_,rfl,_,rfl,a,_,_,_,rfl,rfl,g9.of (by rw[g6 nal];exact ha2),X0 hi.1 hi.2,?_⟩
       have h3l:(c9 H2 l (.lst ((l6 p x m).map V.int++[.int (it p m x)]))) l=some (.lst ((l6 p x (m+1)).map V.int)):=by
         rw[c8,ar8,ec4];rfl
       refine ⟨⟨m+1,rfl,by omega,h3l,fun b o hb=>by rw[g6 (g7 hb hl)];exact s2 b o hb,hne'⟩,?_⟩;rw[au2 h3l,au2 h2l,eb7,eb7,q9,q9];omega
   · rintro σ H2 Q Q' hq ⟨v,hv,u,hu,e1,k1,e2,e3⟩;exact ⟨v,hv,u,hu,e1,k1,e2,hq _ _ e3⟩
theorem ah2:m8 ["p","rings","seen","first","ring","thing"] ["p"] (j6 ai9):=⟨rfl,rfl,rfl,by decide+kernel,rfl,by decide+kernel,by decide+kernel⟩
theorem cz7 {f:Addr}{fd:FuncData}(F:E7 K "walk_rings" "walk_rings" ai9 f fd)(B:Bl mg)(cR:o5 P w K mg base "walk_ring" 1 ["p","first"] by7):o8 P w K mg base G2 2 f fd ["p"] aa3:=by
 refine F.ok ah2 (fun vs H Q E h=> ?_) (fun cdv A outer s H vs Q E hr h=> ?_)
 · obtain ⟨a,p,rfl,_⟩:=h;rfl
 · obtain ⟨a,p,rfl,⟨ha,tp,lp⟩,q⟩:=h;have hu:=Q3 hr
   refine ⟨_,c7 (i6 (i:=1) ah2.nd rfl (Or.inl rfl) (o6 c6)) (c7 (i6 (i:=2) ah2.nd rfl (Or.inl rfl) Z0)
     (c7 (o9 PassesOwn.never rfl (G5 (by rfl) B.range (c5 (A0 B.len (c5 (pv 0) c6)) c6)) (i8 (i:=3) ah2.nd rfl (Or.inl rfl))
       (e8 (B5 (bh0 (aw8 hu (pv 3) (pv 2))) (c7 (i6 (i:=4) ah2.nd rfl (Or.inl rfl) (j7 cR hr (c5 (pv 0) (c5 (pv 3) c6)))) (c7 (C3 (C7 (pv 1) (c5 (pv 4) c6)))
         (e8 (o9 PassesOwn.never rfl (E2 (pv 4)) (i8 (i:=5) ah2.nd rfl (Or.inl rfl)) (e8 (ao2 hu (pv 2) (pv 5) M9 rfl)))))) r6)))
     (e8 (j9 (pv 1))))),?_⟩
   try dsimp only[y7,Cx.nox,Cx.wish]
   refine ⟨ed7 _,fun l hl=> ?_⟩;intro d hd
   have hdl:d≠l:=fun z=>by rw[z,c8] at hd;cases hd
   have hd0:H d=none:=by rw[g6 hdl] at hd;exact hd
   have s0:e7 H (c9 (c9 H l (.lst [])) d (.dK [])):=(e7.upd_new hl).upd_r hd0
   have h0l:(c9 (c9 H l (.lst [])) d (.dK [])) l=some (.lst []):=by rw[g6 hdl.symm,c8]
   refine ⟨_,rfl,a,_,rfl,.inl (g9.of (s0 a _ ha)),(p.length:Int),?_,by omega,by omega,?_⟩
   · rw[eb7]
   rw[show ((p.length:Int)).toNat=p.length by omega]
   refine C6 (lo:=0) (n:=p.length) (fun i σ H2=>∃(as:List Addr) (rs:List (List Int)) (v3 v4 v5:Option V),σ=[some (.ref a),some (.ref l),some (.ref d),v3,v4,v5]/\H2 l=some (.lst (as.map V.ref))/\H2 d=some (.dK (M3 rs.flatten))/\m9 H2 as rs/\G0 p i rs/\e7 H H2/\(∀b∈as,H b=none)/\as.Nodup/\l∉as)
     ⟨[],[],none,none,none,rfl,h0l,c8,⟨rfl,fun j b r h=>by simp at h⟩,ar9 p,s0,fun b hb=>by simp at hb,ei6,by simp⟩ ?_ ?_
   · rintro i σ H2 hi ⟨as,rs,v3,v4,v5,rfl,h2l,h2d,rows,up,s2,fa,nda,nla⟩;have hx:In p (i:Int):=⟨by omega,by omega⟩
     have e0:(0:Int)+(i:Int)=(i:Int):=by omega
     rw[e0];refine ⟨_,rfl,_,rfl,d,_,rfl,X9.k (k:=Sum.inl (i:Int)) h2d,_,rfl,?_⟩
     by_cases hm:(i:Int)∈rs.flatten
     · rw[ar4 hm];refine B6 ?_;exact ⟨as,rs,_,_,_,rfl,h2l,h2d,rows,as0 up hm,s2,fa,nda,nla⟩
     · rw[ai4 hm];refine O8 ?_;refine ⟨_,rfl,_,rfl,a,p,_,rfl,⟨s2 a _ ha,tp,lp⟩,hx,fun e L H3 he s23 pr hL h3e=> ?_⟩;have h3l:=s23 l _ h2l;have h3d:=s23 d _ h2d;have nle:l≠e:=g7 h2l he;have nde:d≠e:=g7 h2d he;have fl:=ab7 tp up;have cl:=ad9 up;have lenas:=rows.1;refine ⟨_,rfl,.inl ⟨rfl,_,g9.of h3l⟩,_,rfl,l,_,_,rfl,rfl,h3l,t5 (by rw[eb7,lenas];omega),?_⟩
       have es:as.map V.ref++[V.ref e]=(as++[e]).map V.ref:=by rw[ec4];rfl
       rw[es];have h4l:(c9 H3 l (.lst ((as++[e]).map V.ref))) l=some (.lst ((as++[e]).map V.ref)):=c8
       have h4d:(c9 H3 l (.lst ((as++[e]).map V.ref))) d=some (.dK (M3 rs.flatten)):=by rw[g6 hdl];exact h3d
       have h4e:(c9 H3 l (.lst ((as++[e]).map V.ref))) e=some (.lst ((l6 p i L).map V.int)):=by rw[g6 nle.symm];exact h3e
       have k4:∀b o,H2 b=some o->b≠l->(c9 H3 l (.lst ((as++[e]).map V.ref))) b=some o:=fun b o hb hn=>by rw[g6 hn];exact s23 b o hb
       generalize (c9 H3 l (.lst ((as++[e]).map V.ref)))=H4 at h4l h4d h4e k4 ⊢;have fr:=am2 up pr hm
       have ndr:=Y5 tp hx fun j j0 j1=>pr.least j j0 j1
       refine ⟨_,rfl,e,rfl,⟨_,g9.of h4e⟩,K2 (K:=K) (a:=e) (xs:=(l6 p i L).map V.int) (fun j σ H5=>∃v5':Option V,σ=[some (.ref a),some (.ref l),some (.ref d),some (.int (i:Int)),some (.ref e),v5']/\H5 d=some (.dK (M3 (rs.flatten++(l6 p i L).take j)))/\j5 d H4 H5)
         ⟨v5,rfl,by rw[eo4,ee3];exact h4d,j5.refl d H4⟩ (fun j σ H5 _ ⟨_,_,_,k⟩=>g9.of (k e _ h4e nde.symm)) ?_ ?_⟩
       · rintro j y σ H5 hj ⟨v5',rfl,h5d,kb⟩;obtain ⟨z,hz,rfl⟩:=R1 hj;have hjl:j < (l6 p i L).length:=(eb9.mp hz).1;rw[q9] at hjl
         have hzn:z∉rs.flatten++(l6 p i L).take j:=by
           intro hm'
           rcases ed0.mp hm' with g|g
           · exact fr z (ec8 hz) g
           · obtain ⟨jj,hjj⟩:=ef8.mp g
             have hjk:jj < j:=by
               have:=(eb9.mp hjj).1;rw[ee1] at this;omega
             rw[ei7 hjk] at hjj;have e1:=(eb9.mp hjj).2;have e2:=(eb9.mp hz).2;exact ee7.mp (ed5.mp ndr) jj j (by rw[q9];omega) (by rw[q9];omega) hjk (by rw[e1,e2])
         refine ⟨_,rfl,_,rfl,d,_,rfl,ar0.k (k:=Sum.inl z) h5d (t5 (by unfold M3;rw[eb7,ec6,ee1,q9];omega)),?_⟩;refine ⟨_,rfl,?_,kb.upd_a⟩;rw[ax2 hzn,c8,j8 hz,ed9]
       · rintro σ H5 ⟨v5',rfl,h5d,kb⟩;rw[eb7,ef3] at h5d
         have nad:∀b∈as,b≠d/\b≠l:=fun b hb=>by
           obtain ⟨r,hr'⟩:=W5 rows hb;exact ⟨ci3 hr' h2d (by intro z;cases z),fun z=>nla (z▸hb)⟩
         refine ⟨as++[e],rs++[l6 p i L],_,_,_,rfl,kb l _ h4l hdl.symm,?_,?_,as1 tp up hx pr hm,?_,?_,?_,?_⟩
         · rw[h5d,ej0,ej3]
         · exact O2 (t6 rows fun b hb o ho=>kb b o (k4 b o ho (nad b hb).2) (nad b hb).1) (kb e _ h4e nde.symm)
         · exact fun b o hb=>kb b o (k4 b o (s2 b o hb) (g7 hb hl)) (g7 hb hd0)
         · intro b hb
           rcases ed0.mp hb with g|g
           · exact fa b g
           · have:b=e:=by simpa using g
             rw[this];exact s2.free he
         · refine ao3 nda fun g=> ?_
           obtain ⟨r,hr'⟩:=W5 rows g;rw[he] at hr';cases hr'
         · intro g
           rcases ed0.mp g with g|g
           · exact nla g
           · exact nle (by simpa using g)
   · rintro σ H2 ⟨as,rs,v3,v4,v5,rfl,h2l,h2d,rows,up,s2,fa,nda,nla⟩;exact ⟨_,rfl,q l as rs H2 hl s2 h2l rows up fa nda nla⟩
end
end My
namespace My
open PySem L2 Mth
section
variable {P:Program} {w:World} {K:PySem.W.Frag} {mg:Str->Option Value} {base:Heap}
def bj3:Sp:=fun vs H Q _=>∃(t r:Addr) (ts rs:List Int) (k:Int),vs=[.ref t,.ref r,.int k]/\H t=some (.lst (ts.map V.int))/\H r=some (.lst (rs.map V.int))/\t≠r/\rs.Nodup/\(∀x∈rs,0<=x/\x < ts.length)/\
 ∀(ts':List Int) (H':Hp),ts'.length=ts.length->(∀j,j < rs.length->C9 ts' (rs.getD j 0)=some (rs.getD (((j:Int)+k)%(rs.length:Int)).toNat 0))->(∀u,0<=u->u∉rs->C9 ts' u=C9 ts u)->H' t=some (.lst (ts'.map V.int))->j5 t H H'->Q .non H'
theorem by8:m8 ["target","ring","steps","place","thing"] ["target","ring","steps"] (j6 W3):=⟨rfl,rfl,rfl,by decide+kernel,rfl,by decide+kernel,by decide+kernel⟩
theorem dh7 {f:Addr}{fd:FuncData}(F:E7 K "send_along" "send_along" W3 f fd)(B:Bl mg):o8 P w K mg base G2 1 f fd ["target","ring","steps"] bj3:=by
 refine F.ok by8 (fun vs H Q E h=> ?_) (fun cdv A outer s H vs Q E hr h=> ?_)
 · obtain ⟨t,r,ts,rs,k,rfl,_⟩:=h;rfl
 · obtain ⟨t,r,ts,rs,k,rfl,ht,hrr,ntr,nd,bd,q⟩:=h
   refine ⟨_,e8 (o9 PassesOwn.never rfl (ao5 B.enum (c5 (pv 1) c6)) (Y2 rfl (C5 (i8 (i:=3) by8.nd rfl (Or.inl rfl)) (C5 (i8 (i:=4) by8.nd rfl (Or.inl rfl)) U5)))
     (e8 (ah6 (J2 B9 (pv 1) (i7 E4 (i7 E3 (pv 3) (pv 2)) (A0 B.len (c5 (pv 1) c6))) (fun _ _=>rfl)) (an7 (pv 0) (pv 4) ac8)))),?_⟩
   try dsimp only[y7,Cx.nox,Cx.wish]
   refine ⟨_,rfl,r,rfl,⟨_,g9.of hrr⟩,ai5 (K:=K) (a:=r) (xs:=rs.map V.int) (fun i σ H2=>∃(ts':List Int) (v3 v4:Option V),σ=[some (.ref t),some (.ref r),some (.int k),v3,v4]/\H2 t=some (.lst (ts'.map V.int))/\ts'.length=ts.length/\(∀j,j < i->C9 ts' (rs.getD j 0)=some (rs.getD (((j:Int)+k)%(rs.length:Int)).toNat 0))/\(∀u,0<=u->u∉rs->C9 ts' u=C9 ts u)/\j5 t H H2)
     ⟨ts,none,none,rfl,ht,rfl,fun j hj=>by omega,fun u _ _=>rfl,j5.refl t H⟩ (fun i σ H2 _ ⟨_,_,_,_,_,_,_,_,k⟩=>g9.of (k r _ hrr ntr.symm)) ?_ ?_⟩
   · rintro i y σ H2 tt hi ⟨ts',v3,v4,rfl,h2t,hl,hj,hu,kb⟩ htt;obtain ⟨z,hz,rfl⟩:=R1 hi;have hil:i < rs.length:=(eb9.mp hz).1;have h2r:=kb r _ hrr ntr.symm;have nt:t≠tt:=g7 h2t htt;have nr:r≠tt:=g7 h2r htt
     have h3r:(c9 H2 tt (.tup [.int (i:Int),.int z])) r=some (.lst (rs.map V.int)):=by rw[g6 nr];exact h2r
     have h3t:(c9 H2 tt (.tup [.int (i:Int),.int z])) t=some (.lst (ts'.map V.int)):=by rw[g6 nt];exact h2t
     have L0:(0:Int) < (rs.length:Int):=by omega
     have m0:=eh7 ((i:Int)+k) (show (rs.length:Int)≠0 by omega);have m1:=ek1 ((i:Int)+k) L0;refine ⟨tt,_,rfl,Q0.of c8,rfl,_,_,rfl,_,_,rfl,rfl,?_⟩;refine ⟨_,rfl,_,rfl,_,rfl,_,_,rfl,rfl,_,rfl,r,_,rfl,.inl (g9.of h3r),?_⟩;rw[eb7];refine ⟨_,_,rfl,rfl,L0,r,_,_,_,rfl,rfl,g9.of h3r,X0 m0 m1,?_⟩;obtain ⟨z0,z1⟩:=bd z (ec8 hz);refine ⟨_,rfl,_,rfl,t,_,_,z.toNat,rfl,rfl,h3t,?_,?_⟩
     · unfold ixN;rw[eb7,if_pos z0,if_pos (by omega)]
     have es:(ts'.map V.int).set z.toNat (.int (rs.getD (((i:Int)+k)%(rs.length:Int)).toNat 0))=(ts'.set z.toNat (rs.getD (((i:Int)+k)%(rs.length:Int)).toNat 0)).map V.int:=by rw[es9]
     rw[es]
     have hzi:rs.getD i 0=z:=by rw[E9 hil];exact (eb9.mp hz).2
     refine ⟨_,_,_,rfl,c8,by rw[en5];exact hl,fun j hji=> ?_,fun u u0 un=> ?_,fun b o hb hn=> ?_⟩
     · by_cases e:j=i
       · subst e;rw[hzi,ad1 (by omega)]
       · have hjl:j < rs.length:=by omega
         have:rs.getD j 0≠z:=by rw[<-hzi];exact Q4 nd hjl hil e
         rw[Y4 (bd _ (by rw[E9 hjl];exact ef2 hjl)).1 z0 this];exact hj j (by omega)
     · rw[Y4 u0 z0 (fun e=>un (e▸ec8 hz))];exact hu u u0 un
     · have:=kb b o hb hn;rw[g6 hn,g6 (g7 this htt)];exact this
   · rintro σ H2 ⟨ts',v3,v4,rfl,h2t,hl,hj,hu,kb⟩;rw[eb7] at hj;exact q ts' H2 hl hj hu h2t kb
end
end My
namespace My
open PySem L2 Mth
section
variable {P:Program} {w:World} {K:PySem.W.Frag} {mg:Str->Option Value} {base:Heap}
def ah3:Sp:=fun vs H Q _=>∃(a:Addr) (p:List Int) (k:Int),vs=[.ref a,.int k]/\L4 H a p/\∀(l:Addr) (t:List Int) (H':Hp),H l=none->e7 H H'->J3 p k t->H' l=some (.lst (t.map V.int))->Q (.ref l) H'
end
end My
namespace My
open PySem L2 Mth
section
variable {P:Program} {w:World} {K:PySem.W.Frag} {mg:Str->Option Value} {base:Heap}
def cl0:Sp:=fun vs H Q _=>∃(x y:Nat),vs=[.int (x:Int),.int (y:Int)]/\Q (.int (ef6 x y:Nat)) H
theorem bt9:m8 ["a","b","rest"] ["a","b"] (j6 ab4):=⟨rfl,rfl,rfl,by decide+kernel,rfl,by decide+kernel,by decide+kernel⟩
def cz8 (σ:St):Nat:=match σ[1]? with
 |some (some (V.int i))=>i.toNat
 |_=>0
theorem dp5 {f:Addr}{fd:FuncData}(F:E7 K "greatest_part" "greatest_part" ab4 f fd):o8 P w K mg base G2 1 f fd ["a","b"] cl0:=by
 refine F.ok bt9 (fun vs H Q E h=> ?_) (fun cdv A outer s H vs Q E hr h=> ?_)
 · obtain ⟨x,y,rfl,_⟩:=h;rfl
 · obtain ⟨x,y,rfl,q⟩:=h
   refine ⟨_,c7 (ac5 PassesOwn.never (m7 bh1 (pv 1) g8 (n0 _))
       (c7 (i6 (i:=2) bt9.nd rfl (Or.inl rfl) (i7 E4 (pv 0) (pv 1))) (c7 (i6 (i:=0) bt9.nd rfl (Or.inl rfl) (pv 1)) (e8 (i6 (i:=1) bt9.nd rfl (Or.inl rfl) (pv 2))))))
     (e8 (j9 (pv 0))),?_⟩
   try dsimp only[y7,Cx.nox,Cx.wish]
   refine be0 (fun σ H2=>∃(a b:Nat) (v:Option V),σ=[some (.int (a:Int)),some (.int (b:Int)),v]/\ef6 a b=ef6 x y/\H2=H) (fun σ _=>cz8 σ) ⟨x,y,none,rfl,rfl,rfl⟩ ?_ ?_
   · rintro σ H2 ⟨a,b,v,rfl,hg,rfl⟩;refine ⟨_,rfl,rfl,_,rfl,?_⟩
     by_cases hb:b=0
     · subst hb;refine bt7 (by rfl) ?_;refine ⟨_,rfl,?_⟩;rw[Nat.gcd_zero_right] at hg;rw[hg];exact q
     · have hb':¬V.int (b:Int)=V.int 0:=fun z=>hb (by have:=V.int.inj z;omega)
       rw[decide_eq_false hb'];refine O8 ?_;refine ⟨_,rfl,_,rfl,_,_,rfl,rfl,(by show (0:Int) < (b:Int);omega),_,rfl,_,rfl,⟨b,a%b,some (.int ((a:Int)%(b:Int))),?_,?_,rfl⟩,?_⟩
       · rw[em1];rfl
       · rw[<-hg,ey3 a b,Nat.gcd_rec b a,ey3]
       · show ((a:Int)%(b:Int)).toNat < ((b:Int)).toNat;have:=ek1 (a:Int) (show (0:Int) < (b:Int) by omega);have:=eh7 (a:Int) (show (b:Int)≠0 by omega);omega
   · rintro σ H2 Q Q' hq ⟨v,hv,e1,k1,e2,e3⟩;exact ⟨v,hv,e1,k1,e2,hq _ _ e3⟩
end
end My
namespace My
open PySem L2 Mth
section
variable {P:Program} {w:World} {K:PySem.W.Frag} {mg:Str->Option Value} {base:Heap}
theorem cz9 {T J F:List Int}{t:Nat}{u f:Int}(hT:x8 T)(hl:J.length=T.length)(hu:T[t]? =some u)(hf:F[t]? =some f)(h:(T.take t).map (C9 J)=(F.take t).map some):(T.take (t+1)).map (C9 (J.set u.toNat f))=(F.take (t+1)).map some:=by
 have ht:t < T.length:=(eb9.mp hu).1;have hum:=ec8 hu;have u0:=hT.lo u hum;have u1:=hT.hi u hum;rw[j8 hu,j8 hf,ec4,ec4]
 congr 1
 · rw[<-h]
   refine eh8 fun v hv=>Y4 (hT.lo v (ei5 hv)) u0 fun e=> ?_
   obtain ⟨j,hj⟩:=ef8.mp hv
   have hjt:j < t:=by
     have:=(eb9.mp hj).1;rw[ee1] at this;omega
   rw[ei7 hjt] at hj;have e1:=(eb9.mp hj).2;have e2:=(eb9.mp hu).2;exact ee7.mp (ed5.mp hT.nd) j t (by omega) ht hjt (by rw[e1,e2,e])
 · show [C9 (J.set u.toNat f) u]=[some f];rw[ad1 (by omega)]
def bj4:Sp:=fun vs H Q _=>∃(a:Addr) (bs:List Addr) (Rs:List (List Int)) (l k:Nat),vs=[.ref a,.int ((Rs.length*k:Nat):Int)]/\H a=some (.lst (bs.map V.ref))/\m9 H bs Rs/\1<=Rs.length/\(∀r∈Rs,r.length=l)/\0 < l/\Rs.length*l<=40/\ef6 l k=1/\
 ∀(o:Addr) (J:List Int) (H':Hp),H o=none->e7 H H'->H' o=some (.lst (J.map V.int))->K8 l k Rs J->Q (.ref o) H'
theorem aj4:m8 ["rings","m","whole","joined","lane","ring","step","thing"] ["rings","m"] (j6 aj0):=⟨rfl,rfl,rfl,by decide+kernel,rfl,by decide+kernel,by decide+kernel⟩
theorem dh8 {f:Addr}{fd:FuncData}(F:E7 K "join_rings" "join_rings" aj0 f fd)(B:Bl mg):o8 P w K mg base G2 1 f fd ["rings","m"] bj4:=by
 refine F.ok aj4 (fun vs H Q E h=> ?_) (fun cdv A outer s H vs Q E hr h=> ?_)
 · obtain ⟨a,bs,Rs,l,k,rfl,_⟩:=h;rfl
 · obtain ⟨a,bs,Rs,l,k,rfl,ha,rows,d1,hRl,l0,dl,cop,q⟩:=h
   refine ⟨_,c7 (i6 (i:=2) aj4.nd rfl (Or.inl rfl) (i7 Q1 (A0 B.len (c5 (pv 0) c6)) (A0 B.len (c5 (J2 B9 (pv 0) g8 (fun _ _=>rfl)) c6))))
     (c7 (i6 (i:=3) aj4.nd rfl (Or.inl rfl) (i7 aw7 (o6 (c5 g8 c6)) (pv 2)))
     (c7 (o9 PassesOwn.never rfl (ao5 B.enum (c5 (pv 0) c6)) (Y2 rfl (C5 (i8 (i:=4) aj4.nd rfl (Or.inl rfl)) (C5 (i8 (i:=5) aj4.nd rfl (Or.inl rfl)) U5)))
       (e8 (o9 PassesOwn.never rfl (ao5 B.enum (c5 (pv 5) c6)) (Y2 rfl (C5 (i8 (i:=6) aj4.nd rfl (Or.inl rfl)) (C5 (i8 (i:=7) aj4.nd rfl (Or.inl rfl)) U5)))
         (e8 (ah6 (pv 7) (an7 (pv 3) (i7 E4 (i7 E3 (pv 4) (i7 Q1 (pv 6) (pv 1))) (pv 2)) ac8))))))
     (e8 (j9 (pv 3))))),?_⟩
   try dsimp only[y7,Cx.nox,Cx.wish]
   have lb:bs.length=Rs.length:=rows.1;have dR:Rs.length<=Rs.length*l:=ef9 _ l0;have lR:l<=Rs.length*l:=eq1 _ (by omega);have hb0:bs[0]? =some (bs[0]'(by omega)):=eb8 _;generalize (bs[0]'(by omega))=b0 at hb0;have hr0:Rs[0]? =some (Rs[0]'(by omega)):=eb8 _;have lr0:(Rs[0]'(by omega)).length=l:=hRl _ (ef2 _);generalize (Rs[0]'(by omega))=r0 at hr0 lr0;have h0:=rows.2 0 b0 r0 hb0 hr0;refine ⟨_,rfl,a,_,rfl,.inl (g9.of ha),_,rfl,a,_,_,_,rfl,rfl,g9.of ha,C4 (j:=0) (by rw[ec1,hb0];rfl),b0,_,rfl,.inl (g9.of h0),_,_,rfl,rfl,.inl ⟨by rw[eb7];omega,by rw[eb7];omega⟩,?_⟩;rw[eb7,eb7,lb,lr0]
   dsimp only
   have ew:((Rs.length:Nat):Int)*((l:Nat):Int)=((Rs.length*l:Nat):Int):=(eg2 _ _).symm;rw[ew];obtain ⟨D,hD⟩:∃D,D=Rs.length:=⟨_,rfl⟩;rw[<-hD] at d1 dl lb dR lR ⊢;obtain ⟨N,hN⟩:∃N,N=D*l:=⟨_,rfl⟩;rw[<-hN] at dl dR lR ⊢;refine ⟨(by show 1<=sizeLine;decide),fun e he=> ?_⟩;refine ⟨_,rfl,e,_,_,rfl,rfl,c8,by omega,by omega,by show 1*_<=sizeLine;rw[sizeLine_eq];omega,fun n hn=> ?_⟩;rw[show ((N:Nat):Int).toNat=N by omega,ar7]
   have hne:n≠e:=fun z=>by rw[z,c8] at hn;cases hn
   have hn0:H n=none:=by rw[g6 hne] at hn;exact hn
   have s1:e7 H (c9 (c9 H e (.lst [.int 0])) n (.lst ((ed6 N (0:Int)).map V.int))):=(e7.upd_new he).upd_r hn0;have h1n:(c9 (c9 H e (.lst [.int 0])) n (.lst ((ed6 N (0:Int)).map V.int))) n=some (.lst ((ed6 N (0:Int)).map V.int)):=c8;generalize (c9 (c9 H e (.lst [.int 0])) n (.lst ((ed6 N (0:Int)).map V.int)))=H1 at s1 h1n ⊢;have T:=as4 (d:=D) l0 cop;have lT:=ad2 D l k;obtain ⟨fl,fg⟩:=as5 l0 hRl
   refine ⟨_,rfl,a,rfl,⟨_,g9.of (s1 a _ ha)⟩,ai5 (K:=K) (a:=a) (xs:=bs.map V.ref) (fun i σ H2=>∃(J:List Int) (v4 v5 v6 v7:Option V),σ=[some (.ref a),some (.int ((D*k:Nat):Int)),some (.int ((N:Nat):Int)),some (.ref n),v4,v5,v6,v7]/\H2 n=some (.lst (J.map V.int))/\J.length=N/\((V9 D l k).take (i*l)).map (C9 J)=(Rs.flatten.take (i*l)).map some/\e7 H H2)
     ⟨_,none,none,none,none,rfl,h1n,by rw[el7],by rw[eh4];rfl,s1⟩ (fun i σ H2 _ ⟨_,_,_,_,_,_,_,_,_,s⟩=>g9.of (s a _ ha)) ?_ ?_⟩
   · rintro i y σ H2 t hi ⟨J,v4,v5,v6,v7,rfl,h2n,lJ,hmap,s2⟩ ht;rw[ec1] at hi
     cases hA:bs[i]? with
     |none=>rw[hA] at hi;cases hi
     |some b=>
      rw[hA] at hi;cases hi;have hil:i < bs.length:=(eb9.mp hA).1
      have hiD:i < D:=by omega
      have hri:Rs[i]? =some (Rs[i]'(by omega)):=eb8 _;have lri:(Rs[i]'(by omega)).length=l:=hRl _ (ef2 _);generalize (Rs[i]'(by omega))=r at hri lri;have hrow:=rows.2 i b r hA hri;have s23:e7 H2 (c9 H2 t (.tup [.int (i:Int),.ref b])):=e7.upd_new ht;refine ⟨t,_,rfl,Q0.of c8,rfl,_,_,rfl,_,_,rfl,rfl,?_⟩;generalize (c9 H2 t (.tup [.int (i:Int),.ref b]))=H3 at s23 ⊢;have s3:=s2.trans s23;have h3b:=s3 b _ hrow
      refine ⟨_,rfl,b,rfl,⟨_,g9.of h3b⟩,ai5 (K:=K) (a:=b) (xs:=r.map V.int) (fun j σ H4=>∃(J:List Int) (v6 v7:Option V),σ=[some (.ref a),some (.int ((D*k:Nat):Int)),some (.int ((N:Nat):Int)),some (.ref n),some (.int (i:Int)),some (.ref b),v6,v7]/\H4 n=some (.lst (J.map V.int))/\J.length=N/\((V9 D l k).take (i*l+j)).map (C9 J)=(Rs.flatten.take (i*l+j)).map some/\e7 H H4)
        ⟨J,v6,v7,rfl,s23 n _ h2n,lJ,hmap,s3⟩ (fun j σ H4 _ ⟨_,_,_,_,_,_,_,s⟩=>g9.of (s b _ hrow)) ?_ ?_⟩
      · rintro j y σ H4 t2 hj ⟨J,v6,v7,rfl,h4n,lJ,hmap,s4⟩ ht2;obtain ⟨z,hz,rfl⟩:=R1 hj
        have hjl:j < l:=by rw[<-lri];exact (eb9.mp hz).1
        have s45:e7 H4 (c9 H4 t2 (.tup [.int (j:Int),.int z])):=e7.upd_new ht2;refine ⟨t2,_,rfl,Q0.of c8,rfl,_,_,rfl,_,_,rfl,rfl,?_⟩;generalize (c9 H4 t2 (.tup [.int (j:Int),.int z]))=H5 at s45 ⊢;have h5n:=s45 n _ h4n
        have tlt:i*l+j < D*l:=by
          calc i*l+j < i*l+l:=by omega
            _=(i+1)*l:=by rw[em8]
            _<=D*l:=ek0 l hiD
        have dv1:(i*l+j)/l=i:=by rw[ei2,Nat.mul_add_div l0,eu1 hjl,ej1]
        have dv2:(i*l+j)%l=j:=by rw[ei2,ey7,ef1 hjl]
        have hTt:(V9 D l k)[i*l+j]? =some ((N6 D l k i j:Nat):Int):=by
          unfold V9;rw[ec1,eg8 tlt];show some ((N6 D l k ((i*l+j)/l) ((i*l+j)%l):Nat):Int)=_;rw[dv1,dv2]
        have hFt:Rs.flatten[i*l+j]? =some z:=by
          rw[fg i j (by omega) hjl,ec3,hri];exact hz
        have ep:((i:Int)+(j:Int)*((D*k:Nat):Int))%((N:Nat):Int)=((N6 D l k i j:Nat):Int):=by
          rw[<-bl5 hiD l0,<-eg2,<-eu7,<-em1,hN]
        have plt:N6 D l k i j < D*l:=ao7 hiD l0;refine ⟨_,rfl,_,rfl,_,rfl,_,rfl,_,rfl,_,_,rfl,rfl,.inl ⟨by omega,by omega⟩,_,_,rfl,rfl,_,rfl,_,_,rfl,rfl,(by show (0:Int) < (N:Int);omega),?_⟩
        dsimp only
        rw[ep];refine ⟨n,_,_,N6 D l k i j,rfl,rfl,h5n,?_,?_⟩
        · unfold ixN;rw[eb7,if_pos (by omega),if_pos (by omega)];rfl
        have es:(J.map V.int).set (N6 D l k i j) (.int z)=(J.set (N6 D l k i j) z).map V.int:=by rw[es9]
        rw[es];refine ⟨_,_,_,rfl,c8,by rw[en5];exact lJ,?_,fun c o hc=>by rw[g6 (g7 hc hn0)];exact s45 c o (s4 c o hc)⟩;have:=cz9 (J:=J) T (by rw[lT];omega) hTt hFt hmap;rw[eg3] at this;exact this
      · rintro σ H4 ⟨J,v6,v7,rfl,h4n,lJ,hmap,s4⟩;rw[eb7,lri] at hmap;refine ⟨J,_,_,_,_,rfl,h4n,lJ,?_,s4⟩;rw[em8];exact hmap
   · rintro σ H2 ⟨J,v4,v5,v6,v7,rfl,h2n,lJ,hmap,s2⟩;rw[eb7,lb,el3 (by rw[lT];exact ec0 _),el3 (by rw[fl,<-hD];exact ec0 _)] at hmap;refine ⟨_,rfl,q n J H2 hn0 s2 h2n ⟨by rw[lJ,hN,hD],by rw[<-hD];exact hmap⟩⟩
end
end My
namespace My
open PySem L2 Mth
section
variable {P:Program} {w:World} {K:PySem.W.Frag} {mg:Str->Option Value} {base:Heap}
def cl1:Sp:=fun vs H Q _=>∃(n:Int),vs=[.int n]/\1<=n/\Q .non H
theorem du2:m8 ["number"] ["number"] (j6 W2):=⟨rfl,rfl,rfl,by decide+kernel,rfl,by decide+kernel,by decide+kernel⟩
theorem dp6 {f:Addr}{fd:FuncData}(F:E7 K "must_be_from_one" "must_be_from_one" W2 f fd)(cW:o5 P w K mg base "is_whole" 1 ["thing"] (bb5 K)):o8 P w K mg base G2 2 f fd ["number"] cl1:=by
 refine F.ok du2 (fun vs H Q E h=> ?_) (fun cdv A outer s H vs Q E hr h=> ?_)
 · obtain ⟨n,rfl,_⟩:=h;rfl
 · obtain ⟨n,rfl,h1,q⟩:=h;have hr1:n6 1 _:=hr.mono (by decide);refine ⟨_,e8 (B5 (aa8 (N8 (O6 (j7 cW hr1 (c5 (pv 0) c6)))) (aa7 (m7 bh2 (pv 0) g8 (n0 _)))).pt (e8 bd9) r6),?_⟩
   try dsimp only[y7,Cx.nox,Cx.wish]
   refine ⟨_,rfl,.int n,_,true,false,rfl,.int n,Z1 K "int",ai2 K,true,rfl,?_⟩;refine B6 ⟨_,rfl,_,_,rfl,rfl,_,rfl,?_⟩;rw[decide_eq_false (show ¬n < 1 by omega)];exact B6 q
end
end My
namespace My
open PySem L2 Mth
section
variable {P:Program} {w:World} {K:PySem.W.Frag} {mg:Str->Option Value} {base:Heap}
def C8 (es:List (Nat×Addr)):List (w6×V):=es.map fun e=>(Sum.inl (e.1:Int),V.ref e.2)
theorem by9 {es:List (Nat×Addr)}{l:Nat}{v:V}(h:D0 (C8 es) (Sum.inl (l:Int))=some v):∃e∈es,e.1=l/\v= .ref e.2:=by
 unfold D0 at h
 cases hf:(C8 es).find? (fun kv=>decide (kv.1=Sum.inl (l:Int))) with
 |none=>rw[hf] at h;cases h
 |some kv=>
  rw[hf] at h;have hk:=of_decide_eq_true (List.find?_some (p:=fun kv:w6×V=>decide (kv.1=Sum.inl (l:Int))) hf);obtain ⟨e,he,rfl⟩:=ed2.mp (List.mem_of_find?_eq_some hf);have hk':(Sum.inl (e.1:Int):w6)=Sum.inl (l:Int):=hk;have:=Sum.inl.inj hk';exact ⟨e,he,by omega,(Option.some.inj h).symm⟩
theorem bz0 {es:List (Nat×Addr)}{l:Nat}(h:D0 (C8 es) (Sum.inl (l:Int))=none):l∉es.map (·.1):=by
 intro hm;obtain ⟨e,he,rfl⟩:=ed2.mp hm;unfold D0 at h;have h':=Option.map_eq_none_iff.mp h;exact List.find?_eq_none.mp h' (Sum.inl (e.1:Int),V.ref e.2) (ed2.mpr ⟨e,he,rfl⟩) (by simp)
theorem bm9 {α β:Type}:∀{es:List (α×β)},(es.map (·.1)).Nodup->∀{e f:α×β},e∈es->f∈es->e.1=f.1->e=f
 |[],_,e,f,h,_,_=>by simp at h
 |x::es,nd,e,f,he,hf,h=>by
  obtain ⟨n1,n2⟩:=eg5.mp nd
  rcases ee0.mp he with z|z
  · rcases ee0.mp hf with y|y
    · rw[z,y]
    · exact absurd (ed2.mpr ⟨f,y,by rw[<-h,z]⟩) n1
  · rcases ee0.mp hf with y|y
    · exact absurd (ed2.mpr ⟨e,z,by rw[h,y]⟩) n1
    · exact bm9 n2 z y h
theorem cg6 {α β:Type}:∀{es:List (α×β)},(es.map (·.2)).Nodup->∀{e f:α×β},e∈es->f∈es->e.2=f.2->e=f
 |[],_,e,f,h,_,_=>by simp at h
 |x::es,nd,e,f,he,hf,h=>by
  obtain ⟨n1,n2⟩:=eg5.mp nd
  rcases ee0.mp he with z|z
  · rcases ee0.mp hf with y|y
    · rw[z,y]
    · exact absurd (ed2.mpr ⟨f,y,by rw[<-h,z]⟩) n1
  · rcases ee0.mp hf with y|y
    · exact absurd (ed2.mpr ⟨e,z,by rw[h,y]⟩) n1
    · exact cg6 n2 z y h
theorem ct3 {es:List (Nat×Addr)}(nd:(es.map (·.1)).Nodup){e:Nat×Addr}(he:e∈es):D0 (C8 es) (Sum.inl (e.1:Int))=some (.ref e.2):=by
 cases h:D0 (C8 es) (Sum.inl (e.1:Int)) with
 |none=>exact absurd (ed2.mpr ⟨e,he,rfl⟩) (bz0 h)
 |some v=>
  obtain ⟨f,hf,h1,rfl⟩:=by9 h;rw[bm9 nd hf he h1]
theorem cg7 {rs:List (List Int)}{r:List Int}{l:Nat}(h:r.length=l):K9 (rs++[r]) l=K9 rs l++[r]:=by
 unfold K9;rw[en2,ek9 (by simpa using h),eq2]
theorem cg8 {rs:List (List Int)}{r:List Int}{l:Nat}(h:r.length≠l):K9 (rs++[r]) l=K9 rs l:=by
 unfold K9;rw[en2,el0 (by simpa using h),eq2,ee3]
theorem da0 {rs:List (List Int)}{l:Nat}(h:∀r∈rs,r.length≠l):K9 rs l=[]:=by
 unfold K9
 exact List.filter_eq_nil_iff.mpr fun r hr=>by simpa using h r hr
structure ct4 (H0 H:Hp)(d:Addr)(es:List (Nat×Addr))(rs:List (List Int)):Prop where
 nk:(es.map (·.1)).Nodup
 na:(es.map (·.2)).Nodup
 row:∀e∈es,∃cs:List Addr,H e.2=some (.lst (cs.map V.ref))/\m9 H0 cs (K9 rs e.1)
 key:∀k∈es.map (·.1),∃r∈rs,r.length=k
 all:∀r∈rs,r.length∈es.map (·.1)
 nd:∀e∈es,e.2≠d
def bb6:Sp:=fun vs H Q _=>∃(a:Addr) (as:List Addr) (rs:List (List Int)),vs=[.ref a]/\H a=some (.lst (as.map V.ref))/\m9 H as rs/\rs.length<=40/\
 ∀(d:Addr) (es:List (Nat×Addr)) (H':Hp),H d=none->e7 H H'->H' d=some (.dK (C8 es))->ct4 H H' d es rs->es.length<=40->(∀e∈es,H e.2=none)->Q (.ref d) H'
theorem bz1:m8 ["rings","by_length","ring"] ["rings"] (j6 Z3):=⟨rfl,rfl,rfl,by decide+kernel,rfl,by decide+kernel,by decide+kernel⟩
theorem da1 {f:Addr}{fd:FuncData}(F:E7 K "sort_by_length" "sort_by_length" Z3 f fd)(B:Bl mg):o8 P w K mg base G2 1 f fd ["rings"] bb6:=by
 refine F.ok bz1 (fun vs H Q E h=> ?_) (fun cdv A outer s H vs Q E hr h=> ?_)
 · obtain ⟨a,as,rs,rfl,_⟩:=h;rfl
 · obtain ⟨a,as,rs,rfl,ha,rows,lrs,q⟩:=h
   refine ⟨_,c7 (i6 (i:=1) bz1.nd rfl (Or.inl rfl) Z0)
     (c7 (o9 PassesOwn.never rfl (E2 (pv 0)) (i8 (i:=2) bz1.nd rfl (Or.inl rfl))
       (e8 (C3 (C7 (cr0 (pv 1) (c5 (A0 B.len (c5 (pv 2) c6)) (c5 (o6 c6) c6))) (c5 (pv 2) c6)))))
     (e8 (j9 (pv 1)))),?_⟩
   try dsimp only[y7,Cx.nox,Cx.wish]
   refine fun d hd=> ?_
   have s1:e7 H (c9 H d (.dK [])):=e7.upd_new hd;have h1d:(c9 H d (.dK [])) d=some (.dK (C8 [])):=c8;generalize (c9 H d (.dK []))=H1 at s1 h1d ⊢
   refine ⟨_,rfl,a,rfl,⟨_,g9.of (s1 a _ ha)⟩,K2 (K:=K) (a:=a) (xs:=as.map V.ref) (fun i σ H2=>∃(es:List (Nat×Addr)) (v2:Option V),σ=[some (.ref a),some (.ref d),v2]/\H2 d=some (.dK (C8 es))/\ct4 H H2 d es (rs.take i)/\es.length<=i/\(∀e∈es,H e.2=none)/\e7 H H2)
     ⟨[],none,rfl,h1d,⟨ei6,ei6,fun e h=>by simp at h,fun k h=>by simp at h,fun r h=>by simp at h,fun e h=>by simp at h⟩,ec0 _,fun e h=>by simp at h,s1⟩ (fun i σ H2 _ ⟨_,_,_,_,_,_,_,s⟩=>g9.of (s a _ ha)) ?_ ?_⟩
   · rintro i y σ H2 hi ⟨es,v2,rfl,h2d,bl,les,fr,s2⟩;rw[ec1] at hi
     cases hA:as[i]? with
     |none=>rw[hA] at hi;cases hi
     |some b=>
      rw[hA] at hi;cases hi;have hil:i < as.length:=(eb9.mp hA).1;have hri:rs[i]? =some (rs[i]'(by rw[<-rows.1];exact hil)):=eb8 _;generalize (rs[i]'(by rw[<-rows.1];exact hil))=r at hri;have hb0:=rows.2 i b r hA hri;have hb:=s2 b _ hb0
      have hi40:i < 40:=by have:=rows.1;omega
      have et:rs.take (i+1)=rs.take i++[r]:=j8 hri;refine ⟨_,rfl,.inr (.inr (.inl ⟨rfl,.inl ⟨_,h2d⟩⟩)),_,rfl,b,_,rfl,.inl (g9.of hb),ed7 _,fun e he=> ?_⟩;rw[eb7];have nde:d≠e:=g7 h2d he;have s23:e7 H2 (c9 H2 e (.lst [])):=e7.upd_new he;have h3e:(c9 H2 e (.lst [])) e=some (.lst []):=c8
      have kp:∀c,c≠e->(c9 H2 e (.lst [])) c=H2 c:=fun c hc=>g6 hc
      generalize (c9 H2 e (.lst []))=H3 at s23 h3e kp ⊢;refine ⟨d,C8 es,Sum.inl (r.length:Int),.ref e,rfl,rfl,s23 d _ h2d,?_,fun v hv=> ?_,fun hn=> ?_⟩
      · unfold C8;rw[eb7,sizeLine_eq];omega
      · obtain ⟨e0,he0,hl0,rfl⟩:=by9 hv;obtain ⟨cs,hcs,rcs⟩:=bl.row e0 he0;have h3x:=s23 e0.2 _ hcs
        have lx:(cs.map V.ref).length<=1000:=by
          rw[eb7,rcs.1];have:=el9 (fun r=>decide (r.length=e0.1)) (rs.take i);rw[ee1] at this;unfold K9;omega
        refine ⟨.inl ⟨rfl,_,g9.of h3x⟩,_,rfl,e0.2,_,_,rfl,rfl,h3x,t5 lx,?_⟩;refine ⟨es,_,rfl,by rw[g6 (bl.nd e0 he0).symm];exact s23 d _ h2d,⟨bl.nk,bl.na,fun e1 he1=> ?_,fun k hk=> ?_,fun r' hr'=> ?_,bl.nd⟩,by omega,fr,fun c o hc=>by rw[g6 (g7 hc (fr e0 he0))];exact s23 c o (s2 c o hc)⟩
        · by_cases h12:e1.2=e0.2
          · have:e1=e0:=cg6 bl.na he1 he0 h12;subst this;refine ⟨cs++[b],by rw[c8,ec4];rfl,?_⟩;rw[et,cg7 hl0.symm];exact O2 rcs hb0
          · obtain ⟨ys,hys,rys⟩:=bl.row e1 he1;refine ⟨ys,by rw[g6 h12];exact s23 _ _ hys,?_⟩;rw[et,cg8 (fun z=>h12 (by rw[bm9 bl.nk he1 he0 (by omega)]))];exact rys
        · obtain ⟨r',hr',e⟩:=bl.key k hk;exact ⟨r',by rw[et];exact ef7 _ hr',e⟩
        · rw[et] at hr'
          rcases ed0.mp hr' with z|z
          · exact bl.all r' z
          · have:r'=r:=by simpa using z
            rw[this];exact ed2.mpr ⟨e0,he0,hl0⟩
      · have hnk:=bz0 hn
        have ekv:C8 es++[(Sum.inl (r.length:Int),V.ref e)]=C8 (es++[(r.length,e)]):=by unfold C8;rw[ec4];rfl
        rw[ekv]
        have h4e:(c9 H3 d (.dK (C8 (es++[(r.length,e)])))) e=some (.lst []):=by rw[g6 nde.symm];exact h3e
        refine ⟨.inl ⟨rfl,_,g9.of h4e⟩,_,rfl,e,_,_,rfl,rfl,h4e,t5 (ed7 _),?_⟩
        have hne:∀e1∈es,e1.2≠e:=fun e1 he1 z=>by
          obtain ⟨ys,hys,_⟩:=bl.row e1 he1;rw[z,he] at hys;cases hys
        refine ⟨es++[(r.length,e)],_,rfl,by rw[g6 nde,c8],⟨?_,?_,fun e1 he1=> ?_,fun k hk=> ?_,fun r' hr'=> ?_,fun e1 he1=> ?_⟩,by rw[ec6];show es.length+1<=i+1;omega,fun e1 he1=> ?_,fun c o hc=> ?_⟩
        · rw[ec4,eh0];refine ⟨bl.nk,by simp,fun x hx y hy=> ?_⟩
          have:y=r.length:=by simpa using hy
          rw[this]
          exact fun z=>hnk (by rw[<-z];exact hx)
        · rw[ec4,eh0];refine ⟨bl.na,by simp,fun x hx y hy=> ?_⟩
          have:y=e:=by simpa using hy
          rw[this];obtain ⟨e1,he1,rfl⟩:=ed2.mp hx;exact hne e1 he1
        · rcases ed0.mp he1 with z|z
          · obtain ⟨ys,hys,rys⟩:=bl.row e1 z;refine ⟨ys,by rw[g6 (hne e1 z),g6 (bl.nd e1 z),kp _ (hne e1 z)];exact hys,?_⟩;rw[et,cg8 (fun y=>hnk (by rw[y];exact ed2.mpr ⟨e1,z,rfl⟩))];exact rys
          · have:e1=(r.length,e):=by simpa using z
            subst this;refine ⟨[b],c8,?_⟩;show m9 H [b] (K9 (rs.take (i+1)) r.length);rw[et,cg7 rfl,da0 (fun r' hr' y=>hnk (by rw[<-y];exact bl.all r' hr'))];exact O2 (as:=[]) (rs:=[]) ⟨rfl,fun j a r h=>by simp at h⟩ hb0
        · rw[ec4] at hk
          rcases ed0.mp hk with z|z
          · obtain ⟨r',hr',e⟩:=bl.key k z;exact ⟨r',by rw[et];exact ef7 _ hr',e⟩
          · have:k=r.length:=by simpa using z
            exact ⟨r,by rw[et];exact ed8 _ (by simp),this.symm⟩
        · rw[et] at hr';rw[ec4]
          rcases ed0.mp hr' with z|z
          · exact ef7 _ (bl.all r' z)
          · have:r'=r:=by simpa using z
            rw[this];exact ed8 _ (by simp)
        · rcases ed0.mp he1 with z|z
          · exact bl.nd e1 z
          · have:e1=(r.length,e):=by simpa using z
            subst this;exact nde.symm
        · rcases ed0.mp he1 with z|z
          · exact fr e1 z
          · have:e1=(r.length,e):=by simpa using z
            subst this;exact s2.free he
        · have h2c:=s2 c o hc;rw[g6 (g7 h2c he),g6 (g7 hc hd),kp _ (g7 h2c he)];exact h2c
   · rintro σ H2 ⟨es,v2,rfl,h2d,bl,les,fr,s2⟩;rw[eb7,rows.1,ef3] at bl;rw[eb7,rows.1] at les;exact ⟨_,rfl,q d es H2 hd s2 h2d bl (by omega) fr⟩
end
end My
namespace My
open PySem L2 Mth
section
variable {P:Program} {w:World} {K:PySem.W.Frag} {mg:Str->Option Value} {base:Heap}
section
variable {X:Cx}
theorem ct5 {o:Expr}{to:TE}{apos pos:Pos}(ho:PE X o to)(hbase:attributeBase o "pop" X.env (eval o X.env)=eval o X.env:=by rfl)(hline:(apos.endLine==pos.line)=true:=by rfl):
 PE X (.Call (.Attribute o "pop" apos) [] [] pos) (dl9 X.K "list" dm1 to):=dm0 PySem.F.plainAttrs_list PySem.F.slot_list_pop PySem.F.type_list_pop dm2 ho hbase hline
theorem bq9 (K:PySem.W.Frag){o e:Expr}{to:TE}{t:TA}{apos pos:Pos}(ho:PE X o to)(ha:PA X [e] t)(hK:X.K=K:=by rfl)
   (hbase:attributeBase o "pop" X.env (eval o X.env)=eval o X.env:=by rfl)
   (hfew:((backTo pos (starEach [e] X.env)).all (fun x=> !x.1)&&(backToKw pos (keywordEach [] X.env)).all (fun x=>x.1.isSome)
     &&decide ([e].length+([]:List Keyword).length+(if ([]:List Keyword).isEmpty then 0 else 1) < 30))=true:=by rfl)
   (hline:(apos.endLine==pos.line)=true:=by rfl) (hs:starEach [e] X.env=(false,eval e X.env)::starEach [] X.env:=by rfl) (hplain:(backTo pos (starEach [] X.env)).any (·.1)=false:=by rfl):
   PE X (.Call (.Attribute o "pop" apos) [e] [] pos) (tBM K "list" co5 to t):=by
 subst hK;exact ba7 PySem.F.plainAttrs_list PySem.F.slot_list_pop PySem.F.type_list_pop cx2 ho ha hbase hfew hline hs hplain
end
def bz2 (K:PySem.W.Frag):Sp:=fun vs H Q _=>∃(a:Addr) (ns:List Int) (k:Int),vs=[.ref a,.int k]/\g9 K H a (ns.map V.int)/\0<=k/\∀z,Q (.int z) H
theorem dp7:m8 ["script","k"] ["script","k"] (j6 af9):=⟨rfl,rfl,rfl,by decide+kernel,rfl,by decide+kernel,by decide+kernel⟩
theorem dh9 {f:Addr}{fd:FuncData}(F:E7 K "_law_cell_at" "_law_cell_at" af9 f fd)(B:Bl mg):o8 P w K mg base G2 1 f fd ["script","k"] (bz2 K):=by
 refine F.ok dp7 (fun vs H Q E h=> ?_) (fun cdv A outer s H vs Q E hr h=> ?_)
 · obtain ⟨a,ns,k,rfl,_⟩:=h;rfl
 · obtain ⟨a,ns,k,rfl,ha,k0,q⟩:=h;refine ⟨_,c7 (B5 (m7 bh2 (pv 1) (A0 B.len (c5 (pv 0) c6)) (n0 _)) (e8 (j9 (J2 B9 (pv 0) (pv 1) (fun _ _=>rfl)))) r6) (e8 (j9 g8)),?_⟩
   try dsimp only[y7,Cx.nox,Cx.wish]
   refine ⟨_,rfl,_,rfl,a,_,rfl,.inl ha,_,_,rfl,rfl,_,rfl,?_⟩;rw[eb7];refine ab0 (fun h=> ?_) (fun h=>q 0);have h:k < (ns.length:Int):=of_decide_eq_true h;exact ⟨_,rfl,_,rfl,a,_,k,_,rfl,rfl,ha,X0 k0 h,q _⟩
def bz3:Sp:=fun vs H Q _=>∃(z k:Int),vs=[.int z,.int k]/\0<=k/\k<=1000/\∀r:Int,0<=r->Q (.int r) H
theorem bz4:m8 ["cell","k","one"] ["cell","k"] (j6 at4):=⟨rfl,rfl,rfl,by decide+kernel,rfl,by decide+kernel,by decide+kernel⟩
theorem di0 {f:Addr}{fd:FuncData}(F:E7 K "_law_stir" "_law_stir" at4 f fd):o8 P w K mg base G2 1 f fd ["cell","k"] bz3:=by
 refine F.ok bz4 (fun vs H Q E h=> ?_) (fun cdv A outer s H vs Q E hr h=> ?_)
 · obtain ⟨z,k,rfl,_⟩:=h;rfl
 · obtain ⟨z,k,rfl,k0,k1,q⟩:=h
   refine ⟨_,c7 (i6 (i:=2) bz4.nd rfl (Or.inl rfl) (i7 E4 (i7 Q1 (i7 E3 (i7 E3 (i7 E4 (pv 0) g8) (i7 Q1 g8 (pv 1))) g8) g8) g8))
     (c7 (i6 (i:=2) bz4.nd rfl (Or.inl rfl) (i7 E4 (i7 Q1 (pv 2) (pv 2)) g8))
     (e8 (j9 (i7 ce2 (i7 E4 (i7 Q1 (i7 E3 (pv 2) (i7 Q1 g8 (pv 1))) g8) g8) g8)))),?_⟩
   try dsimp only[y7,Cx.nox,Cx.wish]
   have e64:(2:Int)^64=18446744073709551616:=by decide
   refine ⟨_,rfl,_,_,rfl,rfl,(by show (0:Int) < 2147483629;decide),_,rfl,_,_,rfl,rfl,.inl ⟨by decide,by decide⟩,_,_,rfl,rfl,_,_,rfl,rfl,_,_,rfl,rfl,.inr ⟨by decide,by decide⟩,_,_,rfl,rfl,(by show (0:Int) < 2147483647;decide),?_⟩;refine ⟨_,rfl,_,rfl,_,_,rfl,rfl,.inl ⟨by rw[e64];omega,by rw[e64];omega⟩,_,_,rfl,rfl,(by show (0:Int) < 2147483587;decide),?_⟩;refine ⟨_,rfl,_,rfl,_,_,rfl,rfl,.inl ⟨by decide,by decide⟩,_,_,rfl,rfl,_,_,rfl,rfl,.inr ⟨by decide,by decide⟩,_,_,rfl,rfl,(by show (0:Int) < 2147483563;decide),_,_,rfl,rfl,⟨by decide,by decide⟩,?_⟩;exact q _ (Int.ediv_nonneg (eh7 _ (by decide)) (by decide))
def B7 (H:Hp)(a:Addr):Prop:=∃ds:List Int,H a=some (.lst (ds.map V.int))/\(∀x∈ds,0<=x)/\ds.length<=1000
def bz5:Sp:=fun vs H Q _=>∃(z:Int) (n:Nat),vs=[.int z,.int (n:Int)]/\n<=900/\∀(l:Addr) (H':Hp),H l=none->e7 H H'->B7 H' l->Q (.ref l) H'
theorem aj5:m8 ["cell","many","found","digits","k","number"] ["cell","many"] (j6 at5):=⟨rfl,rfl,rfl,by decide+kernel,rfl,by decide+kernel,by decide+kernel⟩
theorem di1 {f:Addr}{fd:FuncData}(F:E7 K "_law_deck" "_law_deck" at5 f fd)(B:Bl mg)(cS:o5 P w K mg base "_law_stir" 1 ["cell","k"] bz3):o8 P w K mg base G2 2 f fd ["cell","many"] bz5:=by
 refine F.ok aj5 (fun vs H Q E h=> ?_) (fun cdv A outer s H vs Q E hr h=> ?_)
 · obtain ⟨z,n,rfl,_⟩:=h;rfl
 · obtain ⟨z,n,rfl,n9,q⟩:=h
   refine ⟨_,c7 (i6 (i:=2) aj5.nd rfl (Or.inl rfl) (o6 c6))
     (c7 (i6 (i:=3) aj5.nd rfl (Or.inl rfl) (pv 0))
     (c7 (o9 PassesOwn.never rfl (G5 (by rfl) B.range (c5 (pv 1) c6)) (i8 (i:=4) aj5.nd rfl (Or.inl rfl))
       (c7 (i6 (i:=5) aj5.nd rfl (Or.inl rfl) (j7 cS hr (c5 (pv 0) (c5 (pv 4) c6))))
       (c7 (B5 (m7 ci9 (pv 0) (i7 cn4 g8 g8) (n0 _)) (e8 (i6 (i:=5) aj5.nd rfl (Or.inl rfl) (i7 E4 (pv 3) g8))) r6)
       (c7 (i6 (i:=3) aj5.nd rfl (Or.inl rfl) (i7 ce2 (pv 3) g8))
       (e8 (C3 (C7 (pv 2) (c5 (pv 5) c6))))))))
     (e8 (j9 (dn4 (pv 2) (ac7 (ds1 dl3 g8))))))),?_⟩
   try dsimp only[y7,Cx.nox,Cx.wish]
   refine ⟨ed7 _,fun l hl=> ?_⟩;have s1:e7 H (c9 H l (.lst [])):=e7.upd_new hl;have h1l:(c9 H l (.lst [])) l=some (.lst []):=c8;generalize (c9 H l (.lst []))=H1 at s1 h1l ⊢;refine ⟨_,rfl,?_⟩
   refine ⟨_,rfl,(n:Int),rfl,by omega,by omega,C6 (lo:=0) (n:=((n:Nat):Int).toNat) (fun i σ H2=>∃(ds:List Int) (dg:Int) (v4 v5:Option V),σ=[some (.int z),some (.int (n:Int)),some (.ref l),some (.int dg),v4,v5]/\H2 l=some (.lst (ds.map V.int))/\ds.length=i/\(∀x∈ds,0<=x)/\e7 H H2)
     ⟨[],z,none,none,rfl,h1l,rfl,fun x hx=>by simp at hx,s1⟩ ?_ ?_⟩
   · rintro i σ H2 hi ⟨ds,dg,v4,v5,rfl,h2l,lds,pos,s2⟩;refine ⟨_,rfl,_,rfl,z,_,rfl,by omega,by omega,fun r r0=> ?_⟩;have cp:dl2 10 18:=⟨by decide,by decide,by decide⟩;refine ⟨_,rfl,_,_,rfl,rfl,cp,_,_,rfl,rfl,_,rfl,?_⟩
     have fin:∀w:Int,0<=w->∃(ds':List Int) (dg':Int) (v4 v5:Option V),[some (V.int z),some (V.int (n:Int)),some (.ref l),some (V.int (dg/720720)),some (V.int ((0:Int)+(i:Int))),some (V.int w)]=[some (V.int z),some (V.int (n:Int)),some (.ref l),some (V.int dg'),v4,v5]/\(c9 H2 l (.lst (ds.map V.int++[.int w]))) l=some (.lst (ds'.map V.int))/\ds'.length=i+1/\(∀x∈ds',0<=x)/\e7 H (c9 H2 l (.lst (ds.map V.int++[.int w]))):=fun w w0=>by
       refine ⟨ds++[w],dg/720720,_,_,rfl,by rw[c8,ec4];rfl,by rw[ec6,lds];rfl,fun x hx=> ?_,fun b o hb=>by rw[g6 (g7 hb hl)];exact s2 b o hb⟩
       rcases ed0.mp hx with y|y
       · exact pos x y
       · have:x=w:=by simpa using y
         rw[this];exact w0
     refine ab0 (fun _=> ?_) (fun _=> ?_)
     · refine ⟨_,rfl,_,_,rfl,rfl,(by show (0:Int) < 720720;decide),?_⟩;refine ⟨_,rfl,_,_,rfl,rfl,⟨by decide,by decide⟩,?_⟩;refine ⟨_,rfl,.inl ⟨rfl,_,g9.of h2l⟩,_,rfl,l,_,_,rfl,rfl,h2l,t5 (by rw[eb7];omega),?_⟩;exact fin (dg%720720) (eh7 _ (by decide))
     · refine ⟨_,rfl,_,_,rfl,rfl,⟨by decide,by decide⟩,?_⟩;refine ⟨_,rfl,.inl ⟨rfl,_,g9.of h2l⟩,_,rfl,l,_,_,rfl,rfl,h2l,t5 (by rw[eb7];omega),?_⟩;exact fin r r0
   · rintro σ H2 ⟨ds,dg,v4,v5,rfl,h2l,lds,pos,s2⟩;refine ⟨_,rfl,_,rfl,_,rfl,rfl,l,_,rfl,g9.of h2l,fun o ho=> ?_⟩;refine q o _ (s2.free ho) (s2.upd_r (s2.free ho)) ⟨ds.reverse,by rw[c8,List.map_reverse],fun x hx=>pos x (eo3.mp hx),by rw[eo0];omega⟩
def ap6:Sp:=fun vs H Q _=>∃(a:Addr),vs=[.ref a]/\B7 H a/\∀(r:Int) (H':Hp),0<=r->B7 H' a->j5 a H H'->Q (.int r) H'
theorem dp8:m8 ["deck"] ["deck"] (j6 at6):=⟨rfl,rfl,rfl,by decide+kernel,rfl,by decide+kernel,by decide+kernel⟩
theorem di2 {f:Addr}{fd:FuncData}(F:E7 K "_law_next" "_law_next" at6 f fd):o8 P w K mg base G2 1 f fd ["deck"] ap6:=by
 refine F.ok dp8 (fun vs H Q E h=> ?_) (fun cdv A outer s H vs Q E hr h=> ?_)
 · obtain ⟨a,rfl,_⟩:=h;rfl
 · obtain ⟨a,rfl,⟨ds,ha,pos,len⟩,q⟩:=h;have hu:=Q3 hr;refine ⟨_,c7 (B5 (m7 (ao4 0 hu) (pv 0) (o6 c6) (n0 _)) (e8 (j9 g8)) r6) (e8 (j9 (ct5 (pv 0)))),?_⟩
   try dsimp only[y7,Cx.nox,Cx.wish]
   refine ⟨_,rfl,ed7 _,fun e he=> ?_⟩;have nae:a≠e:=g7 ha he
   have h1a:(c9 H e (.lst [])) a=some (.lst (ds.map V.int)):=by rw[g6 nae];exact ha
   have kb:j5 a H (c9 H e (.lst [])):=fun b o hb _=>by rw[g6 (g7 hb he)];exact hb
   refine ⟨a,e,ds.map V.int,[],_,rfl,rfl,g9.of h1a,g9.of c8,bl3 _ _ _ _,_,rfl,?_⟩;generalize (c9 H e (.lst []))=H1 at h1a kb ⊢
   cases ds with
   |nil=>exact O8 (q 0 H1 (by decide) ⟨[],h1a,pos,len⟩ kb)
   |cons x xs=>
    refine B6 ?_
    have hl:(x::xs).length - 1 < (x::xs).length:=by simp
    have hg:((x::xs).map V.int)[((x::xs).map V.int).length - 1]? =some (.int (x::xs)[(x::xs).length - 1]):=by
      rw[eb7,ec1,eb8 hl];rfl
    refine ⟨_,rfl,.inl ⟨rfl,_,g9.of h1a⟩,a,_,_,rfl,rfl,h1a,hg,?_⟩
    refine q _ _ (pos _ (ef2 hl)) ⟨(x::xs).dropLast,by rw[c8,List.map_dropLast],fun y hy=>pos y ((List.dropLast_sublist _).mem hy),by rw[er1];omega⟩ fun b o hb hn=>by rw[g6 hn];exact kb b o hb hn
end
end My
namespace My
open PySem L2 Mth
section
variable {P:Program} {w:World} {K:PySem.W.Frag} {mg:Str->Option Value} {base:Heap}
def bn0:Sp:=fun vs H Q _=>∃(g:Addr) (n:Nat),vs=[.ref g,.int (n:Int)]/\B7 H g/\n<=40/\
 ∀(l:Addr) (p:List Int) (H':Hp),H l=none->x8 p->p.length=n->H' l=some (.lst (p.map V.int))->B7 H' g->j5 g H H'->Q (.ref l) H'
theorem X5:m8 ["deck","many","left","order","few","found","at","l","k"] ["deck","many"] (j6 au0):=⟨rfl,rfl,rfl,by decide+kernel,rfl,by decide+kernel,by decide+kernel⟩
theorem du3:(["k","deck","left"]:List Str).Nodup:=by decide+kernel
theorem B7.some {H:Hp}{a:Addr}(h:B7 H a):∃o,H a=some o:=let ⟨_,e,_⟩:=h;⟨_,e⟩
theorem B7.same {H H':Hp}{a:Addr}(h:B7 H a)(s:e7 H H'):B7 H' a:=let ⟨ds,e,r⟩:=h;⟨ds,s _ _ e,r⟩
theorem B7.upd {H:Hp}{a b:Addr}{o:HO}(h:B7 H a)(n:a≠b):B7 (L2.c9 H b o) a:=let ⟨ds,e,r⟩:=h;⟨ds,by rw[g6 n];exact e,r⟩
theorem da2 {f:Addr}{fd:FuncData}(F:E7 K "_law_turn" "_law_turn" au0 f fd)(B:Bl mg)(cN:o5 P w K mg base "_law_next" 1 ["deck"] ap6):o8 P w K mg base G2 2 f fd ["deck","many"] bn0:=by
 refine F.ok X5 (fun vs H Q E h=> ?_) (fun cdv A outer s H vs Q E hr h=> ?_)
 · obtain ⟨g,n,rfl,_⟩:=h;rfl
 · obtain ⟨g,n,rfl,hD,n4,q⟩:=h
   refine ⟨_,c7 (i6 (i:=2) X5.nd rfl (Or.inr rfl) (ar5 rfl B.list B.range (c5 (pv 1) c6)))
     (c7 (bl2 (i:=3) (N:=["k","deck","left"]) (nl:=1) (fr:=[0,2]) X5.nd rfl (Or.inl rfl) rfl .of (G5 (by rfl) B.range (c5 (pv 1) c6)) (fun _ _ _ _ _=>i8 (i:=0) du3 rfl (Or.inl rfl))
       (fun _ _ _ _ _=>ar2) (fun _ _ _ _ _=>bq9 K (pv 2) (c5 (i7 E4 (j7 cN hr (c5 (pv 1) c6)) (be2 K B.len (c5 (pv 2) c6))) c6)))
     (c7 (B5 (m7 V1 (i7 E4 (j7 cN hr (c5 (pv 0) c6)) g8) g8 (n0 _)) (e8 (j9 (pv 3))) r6)
     (c7 (i6 (i:=4) X5.nd rfl (Or.inl rfl) (o6 (c5 (i7 E3 g8 (i7 E4 (j7 cN hr (c5 (pv 0) c6)) g8)) (c5 (i7 E3 g8 (i7 E4 (j7 cN hr (c5 (pv 0) c6)) g8)) c6))))
     (c7 (i6 (i:=5) X5.nd rfl (Or.inl rfl) (i7 aw7 (o6 (c5 g8 c6)) (pv 1)))
     (c7 (i6 (i:=6) X5.nd rfl (Or.inl rfl) g8)
     (c7 (ac5 PassesOwn.never (m7 bh2 (pv 6) (pv 1) (n0 _))
       (c7 (i6 (i:=7) X5.nd rfl (Or.inl rfl) (ce9 rfl B.min (c5 (J2 B9 (pv 4) (i7 E4 (j7 cN hr (c5 (pv 0) c6)) g8) (fun _ _=>rfl)) (c5 (i7 V5 (pv 1) (pv 6)) c6))))
       (c7 (o9 PassesOwn.never rfl (G5 (by rfl) B.range (c5 (pv 7) c6)) (i8 (i:=8) X5.nd rfl (Or.inl rfl))
         (e8 (ah6 (J2 B9 (pv 3) (i7 E3 (pv 6) (i7 E4 (i7 E3 (pv 8) g8) (pv 7))) (fun _ _=>rfl)) (an7 (pv 5) (J2 B9 (pv 3) (i7 E3 (pv 6) (pv 8)) (fun _ _=>rfl)) ac8))))
       (e8 (i6 (i:=6) X5.nd rfl (Or.inl rfl) (i7 E3 (pv 6) (pv 7)))))))
     (e8 (j9 (pv 5))))))))),?_⟩
   try dsimp only[y7,Cx.nox,Cx.wish]
   refine ⟨_,rfl,_,rfl,fun r hr'=>⟨r,0,(n:Int),rfl,c8,⟨by decide,by decide,by omega,by omega⟩,by omega,fun l hl=> ?_⟩⟩
   have hlr:l≠r:=fun z=>by rw[z,c8] at hl;cases hl
   have hl0:H l=none:=by rw[g6 hlr] at hl;exact hl
   have e0:((n:Int) - 0).toNat=n:=by omega
   rw[e0];have s1:e7 H (c9 (c9 H r (.rng 0 (n:Int))) l (.lst ((Y0 0 n).map V.int))):=(e7.upd_new hr').upd_r hl0;have h1l:(c9 (c9 H r (.rng 0 (n:Int))) l (.lst ((Y0 0 n).map V.int))) l=some (.lst ((Y0 0 n).map V.int)):=c8;generalize (c9 (c9 H r (.rng 0 (n:Int))) l (.lst ((Y0 0 n).map V.int)))=H1 at s1 h1l ⊢
   have ngl:g≠l:=by obtain ⟨o,e⟩:=hD.some;exact g7 e hl0
   refine ⟨_,rfl,(n:Int),rfl,by omega,by omega,S8 (lo:=0) (n:=((n:Nat):Int).toNat) (fun i ys σ H2=>∃(v:Option V) (ls:List V),σ=[v,some (.ref g),some (.ref l)]/\H2 l=some (.lst ls)/\(ys++ls).Perm ((Y0 0 n).map V.int)/\ys.length=i/\B7 H2 g/\j5 g H H2)
     ⟨none,_,rfl,h1l,List.Perm.refl _,rfl,hD.same s1,fun b o hb _=>s1 b o hb⟩ ?_ ?_⟩
   · rintro i ys σ H2 hi ⟨v,ls,rfl,h2l,pm,ly,D2,kb2⟩
     have hlen:ys.length+ls.length=n:=by
       have:=pm.length_eq;rw[ec6,eb7,J9] at this;exact this
     have hlp:0 < ls.length:=by omega
     refine ⟨_,rfl,.inl ⟨rfl,_,g9.of h2l⟩,_,rfl,g,rfl,D2,fun x H3 x0 D3 kb3=> ?_⟩;have h3l:=kb3 l _ h2l ngl.symm;refine ⟨_,rfl,l,_,rfl,.inl (g9.of h3l),_,_,rfl,rfl,(by show (0:Int) < (ls.length:Int);omega),?_⟩;have hm0:0<=x%(ls.length:Int):=eh7 _ (by omega);have hm1:x%(ls.length:Int) < (ls.length:Int):=ek1 _ (by omega)
     dsimp only
     generalize x%(ls.length:Int)=jx at hm0 hm1 ⊢;obtain ⟨jn,rfl⟩:=em3 hm0
     have hjl:jn < ls.length:=by omega
     refine ⟨l,_,_,jn,ls[jn],rfl,rfl,h3l,by omega,by omega,?_,eb8 hjl,?_,?_⟩
     · have:ixN ls.length (jn:Int)=some jn:=by
         unfold ixN;rw[if_pos (by omega),if_pos (by omega)];simp
       exact (ba6 this).1
     · exact t5 (by omega)
     · refine ⟨_,_,rfl,c8,?_,by rw[ec6,ly];rfl,D3.upd ngl,fun b o hb hn=>by rw[g6 (g7 hb hl0)];exact kb3 b o (kb2 b o hb hn) hn⟩;have pe:=ar6 (l:=ls) (k:=jn) (eb8 hjl);refine List.Perm.trans ?_ pm;rw[ed9];exact List.Perm.append_left ys pe
   · rintro ys σ H2 ⟨v,ls,rfl,h2l,pm,ly,D2,kb2⟩ m hm
     have hlen:ys.length+ls.length=n:=by
       have:=pm.length_eq;rw[ec6,eb7,J9] at this;exact this
     have:ls=[]:=ej9.mp (by omega);subst this;rw[ee3] at pm;obtain ⟨ts,rfl,hts⟩:=cp8 pm;obtain ⟨hT,hTl⟩:=bd0 hts
     have ngm:g≠m:=by obtain ⟨o,e⟩:=D2.some;exact g7 e hm
     have hm0:H m=none:=kb2.free hm ngm.symm;have D3:B7 (c9 H2 m (.lst (ts.map V.int))) g:=D2.upd ngm;have kb3:j5 g H (c9 H2 m (.lst (ts.map V.int))):=kb2.upd_r hm0;have h3m:(c9 H2 m (.lst (ts.map V.int))) m=some (.lst (ts.map V.int)):=c8;generalize (c9 H2 m (.lst (ts.map V.int)))=H3 at D3 kb3 h3m ⊢;refine ⟨_,rfl,g,rfl,D3,fun x1 H4 x10 D4 kb34=> ?_⟩;have h4m:=kb34 m _ h3m ngm.symm;have kb4:=kb3.trans kb34;refine ⟨_,_,rfl,rfl,(by show (0:Int) < 4;decide),rfl,_,rfl,?_⟩;refine ab0 (fun _=>⟨_,rfl,q m ts H4 hm0 hT hTl h4m D4 kb4⟩) (fun _=> ?_);refine ⟨_,rfl,g,rfl,D4,fun x2 H5 x20 D5 kb45=>⟨_,_,rfl,rfl,(by show (0:Int) < 4;decide),_,_,rfl,rfl,?_⟩⟩;refine ⟨_,rfl,g,rfl,D5,fun x3 H6 x30 D6 kb56=>⟨_,_,rfl,rfl,(by show (0:Int) < 6;decide),_,_,rfl,rfl,(by show 2<=sizeLine;decide),fun fw hfw=> ?_⟩⟩
     have ngf:g≠fw:=by obtain ⟨o,e⟩:=D6.some;exact g7 e hfw
     have f1:1<=1+x2%4/\1+x2%4<=4:=by omega
     have f2:1<=1+x3%6/\1+x3%6<=6:=by omega
     have kb6:=(kb4.trans kb45).trans kb56;have hfw0:H fw=none:=kb6.free hfw ngf.symm;have h6m:=kb56 m _ (kb45 m _ h4m ngm.symm) ngm.symm;have nmf:m≠fw:=g7 h6m hfw
     dsimp only
     generalize 1+x2%4=a1 at f1 ⊢;generalize 1+x3%6=a2 at f2 ⊢;have h7f:(c9 H6 fw (.lst [.int a1,.int a2])) fw=some (.lst [.int a1,.int a2]):=c8
     have h7m:(c9 H6 fw (.lst [.int a1,.int a2])) m=some (.lst (ts.map V.int)):=by rw[g6 nmf];exact h6m
     have D7:B7 (c9 H6 fw (.lst [.int a1,.int a2])) g:=D6.upd ngf;have kb7:j5 g H (c9 H6 fw (.lst [.int a1,.int a2])):=kb6.upd_r hfw0;generalize (c9 H6 fw (.lst [.int a1,.int a2]))=H7 at h7f h7m D7 kb7 ⊢;refine ⟨(by show 1<=sizeLine;decide),fun e he=> ?_⟩
     have nge:g≠e:=by obtain ⟨o,e'⟩:=D7.some;exact g7 e' he
     have he0:H e=none:=kb7.free he nge.symm;refine ⟨_,rfl,e,_,_,rfl,rfl,c8,by omega,by omega,by show 1*_<=sizeLine;rw[sizeLine_eq];omega,fun fo hfo=> ?_⟩;rw[show ((n:Nat):Int).toNat=n by omega,ar7]
     have hfe:fo≠e:=fun z=>by rw[z,c8] at hfo;cases hfo
     have hfo7:H7 fo=none:=by rw[g6 hfe] at hfo;exact hfo
     have ngo:g≠fo:=by obtain ⟨o,e'⟩:=D7.some;exact g7 e' hfo7
     have hfo0:H fo=none:=kb7.free hfo7 ngo.symm;have nmo:m≠fo:=g7 h7m hfo7;have nfo:fw≠fo:=g7 h7f hfo7;have s78:e7 H7 (c9 (c9 H7 e (.lst [.int 0])) fo (.lst ((ed6 n (0:Int)).map V.int))):=(e7.upd_new he).upd_r hfo7;have h8o:(c9 (c9 H7 e (.lst [.int 0])) fo (.lst ((ed6 n (0:Int)).map V.int))) fo=some (.lst ((ed6 n (0:Int)).map V.int)):=c8;generalize (c9 (c9 H7 e (.lst [.int 0])) fo (.lst ((ed6 n (0:Int)).map V.int)))=H8 at s78 h8o ⊢
     refine ⟨fun mm σ H9=>∃(fs qs:List Int) (k:Nat) (v7 v8:Option V),σ=[some (.ref g),some (.int (n:Int)),some (.ref l),some (.ref m),some (.ref fw),some (.ref fo),some (.int (k:Int)),v7,v8]/\k<=n/\H9 fo=some (.lst (fs.map V.int))/\H9 m=some (.lst (ts.map V.int))/\H9 fw=some (.lst [.int a1,.int a2])/\fs.length=ts.length/\qs.Perm (ts.take k)/\(ts.take k).map (C9 fs)=qs.map some/\B7 H9 g/\j5 g H H9/\mm=n - k,
       ⟨n,_,[],0,none,none,rfl,ed7 _,h8o,s78 m _ h7m,s78 fw _ h7f,by rw[el7,hTl],List.Perm.refl _,rfl,D7.same s78,fun b o hb hn=>s78 b o (kb7 b o hb hn),by omega⟩,?_⟩
     rintro mm σ H9 ⟨fs,qs,k,v7,v8,rfl,hk,h9o,h9m,h9f,hfl,hq,hmap,D9,kb9,rfl⟩;refine ⟨_,rfl,_,rfl,_,_,rfl,rfl,_,rfl,?_⟩;refine ab0 (fun hlt=> ?_) (fun hge=> ?_)
     · have hlt:(k:Int) < (n:Int):=of_decide_eq_true hlt;refine ⟨fun σ' H'=>∃m',m' < n - k/\_,fun _ _ h=>h,?_⟩;refine ⟨_,rfl,_,rfl,g,rfl,D9,fun x4 H10 x40 D10 kb910=>⟨_,_,rfl,rfl,(by show (0:Int) < 2;decide),?_⟩⟩;have h10f:=kb910 fw _ h9f ngf.symm
       have key:∃av,V7 [V.int a1,V.int a2] (x4%2)=some (.int av)/\1<=av:=by
         have:x4%2=0\/x4%2=1:=by omega
         rcases this with e|e
         · rw[e];exact ⟨a1,C4 (j:=0) rfl,f1.1⟩
         · rw[e];exact ⟨a2,C4 (j:=1) rfl,f2.1⟩
       obtain ⟨av,hat,av1⟩:=key;refine ⟨fw,_,_,_,rfl,rfl,g9.of h10f,hat,?_⟩;refine ⟨_,rfl,_,rfl,_,_,rfl,rfl,av,_,rfl,?_⟩
       have hL:∃L:Nat,(if ((n:Int) - (k:Int)) < av then ((n:Int) - (k:Int)) else av)=(L:Int)/\1<=L/\k+L<=n:=by
         split
         · exact ⟨n - k,by omega,by omega,by omega⟩
         · exact ⟨av.toNat,by omega,by omega,by omega⟩
       obtain ⟨L,eL,L1,kL⟩:=hL
       dsimp only
       rw[eL];have h10m:=kb910 m _ h9m ngm.symm;have h10o:=kb910 fo _ h9o ngo.symm;have kb10:=kb9.trans kb910
       have hLn:((L:Nat):Int).toNat=L:=by omega
       refine ⟨_,rfl,(L:Int),rfl,by omega,by omega,C6 (lo:=0) (n:=((L:Nat):Int).toNat) (fun j σ H11=>∃(fs':List Int) (v8':Option V),σ=[some (.ref g),some (.int (n:Int)),some (.ref l),some (.ref m),some (.ref fw),some (.ref fo),some (.int (k:Int)),some (.int (L:Int)),v8']/\H11 fo=some (.lst (fs'.map V.int))/\H11 m=some (.lst (ts.map V.int))/\H11 fw=some (.lst [.int a1,.int a2])/\fs'.length=ts.length/\(ts.take k).map (C9 fs')=qs.map some/\(∀u,u < j->C9 fs' (ts.getD (k+u) 0)=some (ts.getD (k+(u+1)%L) 0))/\B7 H11 g/\j5 g H H11)
         ⟨fs,v8,rfl,h10o,h10m,h10f,hfl,hmap,fun u hu=>by omega,D10,kb10⟩ ?_ ?_⟩
       · rintro j σ H11 hj ⟨fs',v8',rfl,h11o,h11m,h11f,hfl',hmap',hu',D11,kb11⟩
         have hjL:j < L:=by omega
         have hjm:(j+1)%L < L:=ei3 _ (by omega)
         have hi1:k+j < ts.length:=by omega
         have hi2:k+(j+1)%L < ts.length:=by omega
         have ej:(k:Int)+((0:Int)+(j:Int)+1)%(L:Int)=((k+(j+1)%L:Nat):Int):=by
           have e1:(0:Int)+(j:Int)+1=((j+1:Nat):Int):=by omega
           rw[e1,<-em1];omega
         have hat1:V7 (ts.map V.int) ((k:Int)+((0:Int)+(j:Int)+1)%(L:Int))=some (.int (ts.getD (k+(j+1)%L) 0)):=by
           rw[ej];have:=X0 (p:=ts) (i:=((k+(j+1)%L:Nat):Int)) (by omega) (by omega);rw[eg3] at this;exact this
         have hat2:V7 (ts.map V.int) ((k:Int)+((0:Int)+(j:Int)))=some (.int (ts.getD (k+j) 0)):=by
           have e:(k:Int)+((0:Int)+(j:Int))=((k+j:Nat):Int):=by omega
           rw[e];have:=X0 (p:=ts) (i:=((k+j:Nat):Int)) (by omega) (by omega);rw[eg3] at this;exact this
         refine ⟨_,rfl,_,rfl,_,rfl,_,_,rfl,rfl,_,rfl,_,_,rfl,rfl,(by show (0:Int) < (L:Int);omega),_,_,rfl,rfl,m,_,_,_,rfl,rfl,g9.of h11m,hat1,?_⟩;refine ⟨_,rfl,_,rfl,_,rfl,_,rfl,_,_,rfl,rfl,m,_,_,_,rfl,rfl,g9.of h11m,hat2,?_⟩
         have htv:ts.getD (k+j) 0∈ts:=by rw[E9 hi1];exact ef2 hi1
         have t0:=hT.lo _ htv;have t1:=hT.hi _ htv;refine ⟨fo,_,_,(ts.getD (k+j) 0).toNat,rfl,rfl,h11o,?_,?_⟩
         · unfold ixN;rw[eb7,if_pos t0,if_pos (by omega)]
         have es:(fs'.map V.int).set (ts.getD (k+j) 0).toNat (.int (ts.getD (k+(j+1)%L) 0))=(fs'.set (ts.getD (k+j) 0).toNat (ts.getD (k+(j+1)%L) 0)).map V.int:=by rw[es9]
         rw[es];refine ⟨_,_,rfl,c8,by rw[g6 nmo];exact h11m,by rw[g6 nfo];exact h11f,by rw[en5];exact hfl',?_,?_,D11.upd ngo,fun b o hb hnn=>by rw[g6 (g7 hb hfo0)];exact kb11 b o hb hnn⟩
         · rw[<-hmap']
           refine eh8 fun u hu=> ?_
           have hut:=ei5 hu
           refine Y4 (hT.lo u hut) t0 fun z=> ?_
           obtain ⟨jj,hjj⟩:=ef8.mp hu
           have hjk:jj < k:=by
             have:=(eb9.mp hjj).1;rw[ee1] at this;omega
           rw[ei7 hjk] at hjj;have:=(eb9.mp hjj).2;exact Q4 hT.nd (i:=jj) (j:=k+j) (by omega) hi1 (by omega) (by rw[E9 (show jj < ts.length by omega),this];exact z)
         · intro u hu
           by_cases huj:u=j
           · subst huj;exact ad1 (by omega)
           · have huj':u < j:=by omega
             rw[Y4 (hT.lo _ (by rw[E9 (show k+u < ts.length by omega)];exact ef2 _)) t0 (Q4 hT.nd (by omega) hi1 (by omega))];exact hu' u huj'
       · rintro σ H11 ⟨fs',v8',rfl,h11o,h11m,h11f,hfl',hmap',hu',D11,kb11⟩;rw[hLn] at hu';obtain ⟨qs',hq',hmap''⟩:=cy1 L1 (by omega) hmap' hq hu';refine ⟨_,rfl,_,rfl,_,_,rfl,rfl,n - (k+L),by omega,fs',qs',k+L,some (.int (L:Int)),v8',?_,kL,h11o,h11m,h11f,hfl',hq',hmap'',D11,kb11,rfl⟩;rw[show ((k+L:Nat):Int)=(k:Int)+(L:Int) by omega];rfl
     · have hge:¬(k:Int) < (n:Int):=fun z=>hge (decide_eq_true z)
       have hkl:k=ts.length:=by omega
       rw[hkl,ef3] at hq hmap;have pf:=(bh8 hT hfl hmap).trans (hq.trans hts);obtain ⟨hF,hFl⟩:=bd0 pf;exact ⟨_,rfl,q fo fs H9 hfo0 hF hFl h9o D9 kb9⟩
def spM:Sp:=fun vs H Q _=>∃(g:Addr),vs=[.ref g]/\B7 H g/\∀(m:Nat) (H':Hp),1<=m->m<=1000000000000000000000000000000->B7 H' g->j5 g H H'->Q (.int (m:Int)) H'
theorem scM:m8 ["deck","way","rest","k","found","prime"] ["deck"] (j6 bm8):=⟨rfl,rfl,rfl,by decide+kernel,rfl,by decide+kernel,by decide+kernel⟩
theorem da3 {K:PySem.W.Frag}{a:Addr}{xs:List V}{g:TG}{tb:TS}{D:S6}{σ:St}{H:Hp}(Pv:Nat->St->Hp->Prop)(h0:Pv 0 σ H)(hl:∀i σ H,i<=xs.length->Pv i σ H->Q0 K H a xs)
   (hs:∀i x σ H,xs[i]? =some x->Pv i σ H->g x σ H fun σ2 H2=>tb {D with nx:=Pv (i+1),ct:=Pv (i+1),bk:=D.nx} σ2 H2) (hd:∀σ H,Pv xs.length σ H->D.nx σ H):
   ∃W:Nat->Nat->St->Hp->Prop,(∃m,W 0 m σ H)/\∀i m σ H,W i m σ H->
    ((Itt K a).stop i H/\D.nx σ H)\/((Itt K a).go i H/\∃N:St->Hp->Prop,(∀σ' H',N σ' H'->∃m',m' < m/\W (i+1) m' σ' H')/\∀x H',(Itt K a).yld i H x H'->g x σ H' fun σ2 H2=>tb {D with nx:=N,ct:=N,bk:=D.nx} σ2 H2):=by
 refine ⟨fun i m σ H=>m=xs.length - i/\i<=xs.length/\Pv i σ H,⟨xs.length,by simp,ed7 _,h0⟩,?_⟩;rintro i m σ H ⟨rfl,hi,p⟩;have q:=hl i σ H hi p
 by_cases hlt:i < xs.length
 · refine .inr ⟨⟨xs,xs[i],q,by simp [hlt]⟩,Pv (i+1),fun σ' H' p'=>⟨xs.length - (i+1),by omega,rfl,hlt,p'⟩,fun x H' y=> ?_⟩;obtain ⟨e,y⟩:=y;subst e;exact hs i x σ _ (y xs q) p
 · have e:i=xs.length:=by omega
   subst e;exact .inl ⟨⟨xs,q,ec0 _⟩,hd σ H p⟩
theorem dz5 {f:Addr}{fd:FuncData}(F:E7 K "_law_m" "_law_m" bm8 f fd)(B:Bl mg)(cN:o5 P w K mg base "_law_next" 1 ["deck"] ap6):o8 P w K mg base G2 2 f fd ["deck"] spM:=by
 refine F.ok scM (fun vs H Q E h=> ?_) (fun cdv A outer s H vs Q E hr h=> ?_)
 · obtain ⟨g,rfl,_⟩:=h;rfl
 · obtain ⟨g,rfl,hD,q⟩:=h
   refine ⟨_,c7 (i6 (i:=1) scM.nd rfl (Or.inl rfl) (i7 E4 (j7 cN hr (c5 (pv 0) c6)) g8))
     (c7 (B5 (m7 bh2 (pv 1) g8 (n0 _)) (e8 (j9 (i7 E3 g8 (i7 E4 (j7 cN hr (c5 (pv 0) c6)) (J2 B9 (o6 (c5 g8 (c5 g8 c6))) (pv 1) (fun _ _=>rfl)))))) r6)
     (c7 (B5 (m7 V1 (pv 1) g8 (n0 _)) (c7 (i6 (i:=2) scM.nd rfl (Or.inl rfl) g8) (c7 (o9 PassesOwn.never rfl (G5 (by rfl) B.range (c5 g8 c6)) (i8 (i:=3) scM.nd rfl (Or.inl rfl)) (e8 (i6 (i:=2) scM.nd rfl (Or.inl rfl) (i7 E3 (i7 Q1 (pv 2) g8) (j7 cN hr (c5 (pv 0) c6))))))
         (e8 (j9 (i7 E3 g8 (i7 E4 (pv 2) (i7 V5 (i7 cn4 g8 g8) g8))))))) r6)
     (c7 (i6 (i:=4) scM.nd rfl (Or.inl rfl) g8)
     (c7 (o9 PassesOwn.never rfl (dk9 (ah8 (be5 _ [2,2,2,3,3,5,7] (by decide+kernel)))) (i8 (i:=5) scM.nd rfl (Or.inl rfl)) (e8 (i6 (i:=4) scM.nd rfl (Or.inl rfl) (i7 Q1 (pv 4) (J2 B9 (o6 (c5 g8 (c5 (pv 5) c6))) (i7 E4 (j7 cN hr (c5 (pv 0) c6)) g8) (fun _ _=>rfl))))))
     (c7 (B5 (m7 V1 (pv 1) g8 (n0 _)) (e8 (o9 PassesOwn.never rfl (G5 (by rfl) B.range (c5 g8 c6)) (i8 (i:=3) scM.nd rfl (Or.inl rfl)) (e8 (i6 (i:=4) scM.nd rfl (Or.inl rfl) (i7 Q1 (pv 4) (i7 E3 g8 (i7 E4 (j7 cN hr (c5 (pv 0) c6)) g8))))))) r6)
     (e8 (j9 (pv 4)))))))),?_⟩
   try dsimp only[y7,Cx.nox,Cx.wish]
   refine ⟨_,rfl,g,rfl,hD,fun x1 H1 x10 D1 kb1=>⟨_,_,rfl,rfl,(by show (0:Int) < 5;decide),?_⟩⟩
   dsimp only
   obtain ⟨wy,hwy⟩:∃wy,wy=x1%5:=⟨_,rfl⟩
   have w5:0<=wy/\wy < 5:=by omega
   refine ⟨_,rfl,_,_,rfl,rfl,_,rfl,?_⟩;refine ab0 (fun hw=> ?_) (fun hw=> ?_)
   · have hw:x1%5 < 2:=of_decide_eq_true hw;refine ⟨_,rfl,g,rfl,D1,fun x2 H2 x20 D2 kb2=> ?_⟩;refine ⟨(by show 2<=sizeLine;decide),fun e he=> ?_⟩
     have nge:g≠e:=by obtain ⟨o,e'⟩:=D2.some;exact g7 e' he
     have kb12:=kb1.trans kb2
     have key:∃av,V7 [V.int 12,V.int 60] (x1%5)=some (.int av)/\1<=av/\av<=60:=by
       have:x1%5=0\/x1%5=1:=by omega
       rcases this with e|e
       · rw[e];exact ⟨12,C4 (j:=0) rfl,by decide,by decide⟩
       · rw[e];exact ⟨60,C4 (j:=1) rfl,by decide,by decide⟩
     obtain ⟨av,hat,av1,av2⟩:=key;refine ⟨_,rfl,e,_,_,_,rfl,rfl,g9.of c8,hat,_,_,rfl,rfl,(by show (0:Int) < av;omega),_,_,rfl,rfl,?_⟩;have b1:=eh7 x2 (show av≠0 by omega);have b2:=ek1 x2 (show 0 < av by omega)
     have em:(1:Int)+x2%av=(((1+x2%av).toNat:Nat):Int):=by omega
     dsimp only
     rw[em];exact q _ _ (by omega) (by omega) (D2.upd nge) (kb12.upd_r (kb12.free he nge.symm))
   · refine ⟨_,rfl,rfl,_,rfl,?_⟩;refine ab0 (fun hw4=> ?_) (fun hw4=> ?_)
     · refine ⟨6,rfl,by decide,by decide,C6 (lo:=0) (n:=6) (fun i σ H2=>∃(rest:Int) (v3 v4 v5:Option V),σ=[some (.ref g),some (.int (x1%5)),some (.int rest),v3,v4,v5]/\0<=rest/\B7 H2 g/\j5 g H H2)
         ⟨0,none,none,none,rfl,by decide,D1,kb1⟩ ?_ ?_⟩
       · rintro i σ H2 hi ⟨rest,v3,v4,v5,rfl,r0,D2,kb2⟩;refine ⟨_,rfl,_,_,rfl,rfl,.inr ⟨by decide,by decide⟩,_,rfl,g,rfl,D2,fun x2 H3 x20 D3 kb3=>⟨_,_,rfl,rfl,?_⟩⟩;exact ⟨rest*720720+x2,_,_,_,rfl,by omega,D3,kb2.trans kb3⟩
       · rintro σ H2 ⟨rest,v3,v4,v5,rfl,r0,D2,kb2⟩;refine ⟨_,rfl,_,_,rfl,rfl,⟨by decide,by decide,by decide⟩,_,_,rfl,rfl,_,_,rfl,rfl,(by show (0:Int) < 10^(30:Int).toNat - 1;decide),_,_,rfl,rfl,?_⟩
         have e30:(10:Int)^(30:Int).toNat=1000000000000000000000000000000:=by decide
         dsimp only
         rw[e30];have b1:=eh7 rest (show (1000000000000000000000000000000 - 1:Int)≠0 by decide);have b2:=ek1 rest (show (0:Int) < 1000000000000000000000000000000 - 1 by decide);generalize rest%(1000000000000000000000000000000 - 1)=z at b1 b2 ⊢
         have em:(1:Int)+z=(((1+z).toNat:Nat):Int):=by omega
         rw[em];exact q _ _ (by omega) (by omega) D2 kb2
     · refine ⟨(by show 7<=sizeLine;decide),fun tu htu=> ?_⟩
       have ngt:g≠tu:=by obtain ⟨o,e'⟩:=D1.some;exact g7 e' htu
       have htu0:H tu=none:=kb1.free htu ngt.symm;have h2t:(c9 H1 tu (.tup (([2,2,2,3,3,5,7]:List Int).map V.int))) tu=some (.tup (([2,2,2,3,3,5,7]:List Int).map V.int)):=c8;have D2:B7 (c9 H1 tu (.tup (([2,2,2,3,3,5,7]:List Int).map V.int))) g:=D1.upd ngt;have kb2:j5 g H (c9 H1 tu (.tup (([2,2,2,3,3,5,7]:List Int).map V.int))):=kb1.upd_r htu0;generalize (c9 H1 tu (.tup (([2,2,2,3,3,5,7]:List Int).map V.int)))=H2 at h2t D2 kb2 ⊢
       refine ⟨tu,rfl,⟨_,Q0.of h2t⟩,da3 (K:=K) (a:=tu) (xs:=([2,2,2,3,3,5,7]:List Int).map V.int) (fun i σ H3=>∃(fn:Nat) (v2 v3 v5:Option V),σ=[some (.ref g),some (.int (x1%5)),v2,v3,some (.int (fn:Int)),v5]/\1<=fn/\fn<=7^i/\B7 H3 g/\j5 g H H3/\H3 tu=some (.tup (([2,2,2,3,3,5,7]:List Int).map V.int)))
         ⟨1,none,none,none,rfl,by decide,by decide,D2,kb2,h2t⟩ (fun i σ H3 _ ⟨_,_,_,_,_,_,_,_,_,e⟩=>Q0.of e) ?_ ?_⟩
       · rintro i y σ H3 hi ⟨fn,v2,v3,v5,rfl,f1,f7,D3,kb3,h3t⟩;obtain ⟨pz,hpz,rfl⟩:=R1 hi
         have pz7:1<=pz/\pz<=7:=by
           have:∀z∈([2,2,2,3,3,5,7]:List Int),1<=z/\z<=7:=by decide
           exact this pz (ec8 hpz)
         refine ⟨_,rfl,_,rfl,(by show 2<=sizeLine;decide),fun e he=> ?_⟩
         have nge:g≠e:=by obtain ⟨o,e'⟩:=D3.some;exact g7 e' he
         have nte:tu≠e:=g7 h3t he;refine ⟨_,rfl,g,rfl,D3.upd nge,fun x2 H4 x20 D4 kb4=>⟨_,_,rfl,rfl,(by show (0:Int) < 2;decide),?_⟩⟩;have h4e:=kb4 e _ c8 nge.symm
         have key:∃av:Nat,V7 [V.int 1,V.int pz] (x2%2)=some (.int (av:Int))/\1<=av/\av<=7:=by
           have:x2%2=0\/x2%2=1:=by omega
           rcases this with e|e
           · rw[e];exact ⟨1,C4 (j:=0) rfl,by decide,by decide⟩
           · rw[e];refine ⟨pz.toNat,?_,by omega,by omega⟩
             have:((pz.toNat:Nat):Int)=pz:=by omega
             rw[this];exact C4 (j:=1) rfl
         obtain ⟨av,hat,av1,av7⟩:=key;refine ⟨e,_,_,_,rfl,rfl,g9.of h4e,hat,_,_,rfl,rfl,.inr ⟨by omega,by omega⟩,?_⟩;refine ⟨fn*av,v2,v3,some (.int pz),?_,ej8 f1 av1,?_,D4,fun b o hb hn=>kb4 b o ((kb3.upd_r (kb3.free he nge.symm)) b o hb hn) hn,kb4 tu _ (by rw[g6 nte];exact h3t) ngt.symm⟩
         · rw[eg2];rfl
         · rw[en9];exact ej6 f7 av7
       · rintro σ H3 ⟨fn,v2,v3,v5,rfl,f1,f7,D3,kb3,h3t⟩;have f7:fn<=823543:=f7;refine ⟨_,rfl,rfl,_,rfl,?_⟩;refine ab0 (fun _=> ?_) (fun _=>⟨_,rfl,q fn H3 f1 (by omega) D3 kb3⟩)
         refine ⟨4,rfl,by decide,by decide,C6 (lo:=0) (n:=4) (fun i σ H4=>∃(fm:Nat) (v3:Option V),σ=[some (.ref g),some (.int (x1%5)),v2,v3,some (.int (fm:Int)),v5]/\1<=fm/\fm<=823543*720720^i/\B7 H4 g/\j5 g H H4)
           ⟨fn,v3,rfl,f1,by rw[et0,ek7];exact f7,D3,kb3⟩ ?_ ?_⟩
         · rintro i σ H4 hi ⟨fm,v3,rfl,m1,mb,D4,kb4⟩;refine ⟨_,rfl,_,rfl,g,rfl,D4,fun x2 H5 x20 D5 kb5=>⟨_,_,rfl,rfl,(by show (0:Int) < 720720;decide),_,_,rfl,rfl,_,_,rfl,rfl,.inr ⟨by omega,by omega⟩,?_⟩⟩;refine ⟨fm*(1+x2%720720).toNat,some (.int ((0:Int)+(i:Int))),?_,ej8 m1 (by omega),?_,D5,kb4.trans kb5⟩
           · have e1:(((1+x2%720720).toNat:Nat):Int)=1+x2%720720:=by omega
             rw[eg2,e1];rfl
           · rw[en9,<-ej2];exact ej6 mb (by omega)
         · rintro σ H4 ⟨fm,v3,rfl,m1,mb,D4,kb4⟩
           have e4:823543*720720^4<=1000000000000000000000000000000:=by decide
           exact ⟨_,rfl,q fm H4 m1 (ed3 mb e4) D4 kb4⟩
end
end My
namespace My
open PySem L2
section
theorem bb7 {A1 A2 A3 B:TS}{k:S6}{σ:St}{H:Hp}(h:let D:=k;let T3:=B;let T2:=n5 A3 T3;let T1:=n5 A2 T2;n5 A1 T1 D σ H):(n5 A1 (n5 A2 (n5 A3 B))) k σ H:=h
theorem du4 {A1 A2 A3 A4 B:TS}{k:S6}{σ:St}{H:Hp}(h:let D:=k;let T4:=B;let T3:=n5 A4 T4;let T2:=n5 A3 T3;let T1:=n5 A2 T2;n5 A1 T1 D σ H):(n5 A1 (n5 A2 (n5 A3 (n5 A4 B)))) k σ H:=h
theorem dc9 {A1 A2 A3 A4 A5 B:TS}{k:S6}{σ:St}{H:Hp}(h:let D:=k;let T5:=B;let T4:=n5 A5 T5;let T3:=n5 A4 T4;let T2:=n5 A3 T3;let T1:=n5 A2 T2;n5 A1 T1 D σ H):(n5 A1 (n5 A2 (n5 A3 (n5 A4 (n5 A5 B))))) k σ H:=h
theorem cl2 {A1 A2 A3 A4 A5 A6 B:TS}{k:S6}{σ:St}{H:Hp}(h:let D:=k;let T6:=B;let T5:=n5 A6 T6;let T4:=n5 A5 T5;let T3:=n5 A4 T4;let T2:=n5 A3 T3;let T1:=n5 A2 T2;n5 A1 T1 D σ H):(n5 A1 (n5 A2 (n5 A3 (n5 A4 (n5 A5 (n5 A6 B)))))) k σ H:=h
theorem du5 {A1 A2 A3 A4 A5 A6 A7 B:TS}{k:S6}{σ:St}{H:Hp}(h:let D:=k;let T7:=B;let T6:=n5 A7 T7;let T5:=n5 A6 T6;let T4:=n5 A5 T5;let T3:=n5 A4 T4;let T2:=n5 A3 T3;let T1:=n5 A2 T2;n5 A1 T1 D σ H):(n5 A1 (n5 A2 (n5 A3 (n5 A4 (n5 A5 (n5 A6 (n5 A7 B))))))) k σ H:=h
theorem dq0 {A1 A2 A3 A4 A5 A6 A7 A8 A9 A10 B:TS}{k:S6}{σ:St}{H:Hp}(h:let D:=k;let T10:=B;let T9:=n5 A10 T10;let T8:=n5 A9 T9;let T7:=n5 A8 T8;let T6:=n5 A7 T7;let T5:=n5 A6 T6;let T4:=n5 A5 T5;let T3:=n5 A4 T4;let T2:=n5 A3 T3;let T1:=n5 A2 T2;n5 A1 T1 D σ H):(n5 A1 (n5 A2 (n5 A3 (n5 A4 (n5 A5 (n5 A6 (n5 A7 (n5 A8 (n5 A9 (n5 A10 B)))))))))) k σ H:=h
end
end My
namespace My
open PySem L2 Mth
section
variable {P:Program} {w:World} {K:PySem.W.Frag} {mg:Str->Option Value} {base:Heap}
theorem P8:m8 ["p","met","found","thing","one"] ["p"] (j6 aj1):=⟨rfl,rfl,rfl,by decide+kernel,rfl,by decide+kernel,by decide+kernel⟩
theorem bs9 {f:Addr}{fd:FuncData}(F:E7 K "_law_rounds" "_law_rounds" aj1 f fd)(B:Bl mg):o8 P w K mg base G2 1 f fd ["p"] aa3:=by
 refine F.ok P8 (fun vs H Q E h=> ?_) (fun cdv A outer s H vs Q E hr h=> ?_)
 · obtain ⟨a,p,rfl,⟨ha,tp,lp⟩,q⟩:=h;rfl
 · obtain ⟨a,p,rfl,⟨ha,tp,lp⟩,q⟩:=h;have hu:=Q3 hr;refine ⟨_,@c7 _ _ _ _ _ (@i6 _ _ (1) _ _ _ _ P8.nd rfl (Or.inl rfl) (@Z0 _ _) (by rfl) (by trivial)) (@c7 _ _ _ _ _ (@i6 _ _ (2) _ _ _ _ P8.nd rfl (Or.inl rfl) (@o6 _ _ _ _ (@c6 _)) (by rfl) (by trivial)) (@c7 _ _ _ _ _ (@o9 _ _ _ _ _ _ _ _ PassesOwn.never rfl (@G5 _ _ _ _ _ _ (by rfl) B.range (@c5 _ _ _ _ _ (@A0 _ _ _ _ _ B.len (@c5 _ _ _ _ _ (pv 0) (@c6 _) (by rfl)) (by rfl) (by rfl)) (@c6 _) (by rfl)) (by rfl)) (@i8 _ _ (3) _ P8.nd rfl (Or.inl rfl) (by trivial)) (@e8 _ _ _ (@B5 _ _ _ _ _ _ _ _ (@bh0 _ _ _ _ _ _ (@aw8 _ _ _ _ _ hu (pv 3) (pv 1)) (by first|exact nobehind _ (by decide) (by decide)|rfl)) (@c7 _ _ _ _ _ (@i6 _ _ (4) _ _ _ _ P8.nd rfl (Or.inl rfl) (@o6 _ _ _ _ (@c6 _)) (by rfl) (by trivial)) (@c7 _ _ _ _ _ (@ac5 _ _ _ _ _ _ PassesOwn.never (@bh0 _ _ _ _ _ _ (@aw8 _ _ _ _ _ hu (pv 3) (pv 1)) (by first|exact nobehind _ (by decide) (by decide)|rfl)) (@c7 _ _ _ _ _ (@ao2 _ _ _ _ _ _ _ _ _ hu (pv 1) (pv 3) (@M9 _ _ _ _) rfl) (@c7 _ _ _ _ _ (@C3 _ _ _ _ (@C7 _ _ _ _ _ _ _ (pv 4) (@c5 _ _ _ _ _ (pv 3) (@c6 _) (by rfl)) (by rfl) (by rfl) (by rfl) (by rfl) (by rfl)) (by rfl)) (@e8 _ _ _ (@i6 _ _ (3) _ _ _ _ P8.nd rfl (Or.inl rfl) (@J2 _ _ _ _ _ _ _ B9 (pv 0) (pv 3) (fun _ _=>rfl)) (by rfl) (by trivial)))))) (@e8 _ _ _ (@C3 _ _ _ _ (@C7 _ _ _ _ _ _ _ (pv 2) (@c5 _ _ _ _ _ (pv 4) (@c6 _) (by rfl)) (by rfl) (by rfl) (by rfl) (by rfl) (by rfl)) (by rfl))))) (@r6 _))) (by intro _;rfl)) (@e8 _ _ _ (@j9 _ _ _ _ (pv 2))))),?_⟩;refine bb7 ?_;intros
   try dsimp only[y7,Cx.nox,Cx.wish]
   intro d hd;have nad:a≠d:=g7 ha hd;have s1:e7 H (c9 H d (.dK [])):=e7.upd_new hd;have h1d:(c9 H d (.dK [])) d=some (.dK []):=c8;generalize (c9 H d (.dK []))=H1 at s1 h1d ⊢;refine ⟨ed7 _,fun l hl=> ?_⟩;have ndl:d≠l:=g7 h1d hl;have hl0:H l=none:=s1.free hl;have s2:e7 H (c9 H1 l (.lst [])):=s1.upd_r hl0;have h2l:(c9 H1 l (.lst [])) l=some (.lst []):=c8
   have h2d:(c9 H1 l (.lst [])) d=some (.dK []):=by rw[g6 ndl];exact h1d
   generalize (c9 H1 l (.lst []))=H2 at s2 h2l h2d ⊢;refine ⟨_,rfl,a,_,rfl,.inl (g9.of (s2 a _ ha)),(p.length:Int),?_,by omega,by omega,?_⟩
   · rw[eb7]
   rw[show ((p.length:Int)).toNat=p.length by omega]
   refine C6 (lo:=0) (n:=p.length) (fun i σ H3=>∃(as:List Addr) (rs:List (List Int)) (v3 v4:Option V),σ=[some (.ref a),some (.ref d),some (.ref l),v3,v4]/\H3 l=some (.lst (as.map V.ref))/\H3 d=some (.dK (M3 rs.flatten))/\m9 H3 as rs/\G0 p i rs/\e7 H H3/\(∀b∈as,H b=none)/\as.Nodup/\l∉as)
     ⟨[],[],none,none,rfl,h2l,h2d,⟨rfl,fun j b r h=>by simp at h⟩,ar9 p,s2,fun b hb=>by simp at hb,ei6,by simp⟩ ?_ ?_
   · rintro i σ H3 hi ⟨as,rs,v3,v4,rfl,h3l,h3d,rows,up,s3,fa,nda,nla⟩;have hx:In p (i:Int):=⟨by omega,by omega⟩
     have e0:(0:Int)+(i:Int)=(i:Int):=by omega
     rw[e0];refine ⟨_,rfl,_,rfl,d,_,rfl,X9.k (k:=Sum.inl (i:Int)) h3d,_,rfl,?_⟩
     by_cases hm:(i:Int)∈rs.flatten
     · rw[ar4 hm];refine B6 ?_;exact ⟨as,rs,_,_,rfl,h3l,h3d,rows,as0 up hm,s3,fa,nda,nla⟩
     · rw[ai4 hm];refine O8 ?_;obtain ⟨L,pr⟩:=ax5 tp hx;have fr:=am2 up pr hm;have fl:=ab7 tp up;have cl:=ad9 up;have lenas:=rows.1
       have lL:=O0 tp hx (m:=L) fun j j0 j1=>pr.least j j0 j1
       refine ⟨ed7 _,fun e he=> ?_⟩;have nle:l≠e:=g7 h3l he;have nde:d≠e:=g7 h3d he;have he0:H e=none:=s3.free he;have h4e:(c9 H3 e (.lst [])) e=some (.lst ((l6 p i 0).map V.int)):=c8
       have h4d:(c9 H3 e (.lst [])) d=some (.dK (M3 (rs.flatten++l6 p i 0))):=by rw[g6 nde,h3d];unfold l6;rw[List.range_zero,ep5,ee3]
       have k4:∀b o,H3 b=some o->b≠d->(c9 H3 e (.lst [])) b=some o:=fun b o hb _=>by rw[g6 (g7 hb he)];exact hb
       generalize (c9 H3 e (.lst []))=H4 at h4e h4d k4 ⊢
       refine be0 (fun σ H5=>∃j:Nat,j<=L/\σ=[some (.ref a),some (.ref d),some (.ref l),some (.int (it p j i)),some (.ref e)]/\H5 e=some (.lst ((l6 p i j).map V.int))/\H5 d=some (.dK (M3 (rs.flatten++l6 p i j)))/\(∀b o,H3 b=some o->b≠d->H5 b=some o)) (fun _ H5=>L - bt8 H5 e)
         ⟨0,ed7 _,rfl,h4e,h4d,k4⟩ ?_ ?_
       · rintro σ H5 ⟨j,jL,rfl,h5e,h5d,k5⟩;refine ⟨_,rfl,_,rfl,d,_,rfl,X9.k (k:=Sum.inl (it p j i)) h5d,_,rfl,?_⟩
         by_cases hj:j=L
         · subst hj;rw[ar4 (show it p j i∈rs.flatten++l6 p i j by rw[pr.back];exact ed8 _ (G6.mpr ⟨0,pr.pos,rfl⟩))];refine B6 ?_;have h5l:=k5 l _ h3l ndl.symm;refine ⟨_,rfl,.inl ⟨rfl,_,g9.of h5l⟩,_,rfl,l,_,_,rfl,rfl,h5l,t5 (by rw[eb7,lenas];omega),?_⟩
           have es:as.map V.ref++[V.ref e]=(as++[e]).map V.ref:=by rw[ec4];rfl
           rw[es]
           have nad:∀b∈as,b≠d/\b≠l:=fun b hb=>by
             obtain ⟨r,hr'⟩:=W5 rows hb;exact ⟨ci3 hr' h3d (by intro z;cases z),fun z=>nla (z▸hb)⟩
           refine ⟨as++[e],rs++[l6 p i j],_,_,rfl,c8,?_,?_,as1 tp up hx pr hm,?_,?_,?_,?_⟩
           · rw[g6 ndl,h5d,ej0,ej3]
           · refine O2 (t6 rows fun b hb o ho=> ?_) ?_
             · rw[g6 (nad b hb).2];exact k5 b o ho (nad b hb).1
             · rw[g6 nle.symm];exact h5e
           · intro b o hb;rw[g6 (g7 hb hl0)];exact k5 b o (s3 b o hb) (g7 hb hd)
           · intro b hb
             rcases ed0.mp hb with g|g
             · exact fa b g
             · have:b=e:=by simpa using g
               rw[this];exact he0
           · refine ao3 nda fun g=> ?_
             obtain ⟨r,hr'⟩:=W5 rows g;rw[he] at hr';cases hr'
           · intro g
             rcases ed0.mp g with g|g
             · exact nla g
             · exact nle (by simpa using g)
         · have hjL:j < L:=by omega
           have nm:it p j i∉rs.flatten++l6 p i j:=fun g=>by
             rcases ed0.mp g with g|g
             · exact fr _ (G6.mpr ⟨j,hjL,rfl⟩) g
             · obtain ⟨b,hb,e1⟩:=G6.mp g
               have e2:j=(j - b)+b:=by omega
               rw[e2,J5] at e1;have:=ax3 tp (P4 tp hx (j - b)) hx b (by rw[<-J5,ej4,J5];exact e1);exact pr.least (j - b) (by omega) (by omega) this
           rw[ai4 nm];refine O8 ?_;refine ⟨_,rfl,_,rfl,d,_,rfl,ar0.k (k:=Sum.inl (it p j i)) h5d (t5 (by unfold M3;rw[eb7,ec6,q9];omega)),?_⟩;rw[ax2 nm]
           have h6d:(c9 H5 d (.dK (M3 (rs.flatten++l6 p i j++[it p j i])))) d=some (.dK (M3 (rs.flatten++l6 p i (j+1)))):=by rw[c8,ar8,ed9]
           have h6e:(c9 H5 d (.dK (M3 (rs.flatten++l6 p i j++[it p j i])))) e=some (.lst ((l6 p i j).map V.int)):=by rw[g6 nde.symm];exact h5e
           have k6:∀b o,H3 b=some o->b≠d->(c9 H5 d (.dK (M3 (rs.flatten++l6 p i j++[it p j i])))) b=some o:=fun b o hb hn=>by rw[g6 hn];exact k5 b o hb hn
           generalize (c9 H5 d (.dK (M3 (rs.flatten++l6 p i j++[it p j i]))))=H6 at h6d h6e k6 ⊢;refine ⟨_,rfl,.inl ⟨rfl,_,g9.of h6e⟩,_,rfl,e,_,_,rfl,rfl,h6e,t5 (by rw[eb7,q9];omega),?_⟩;have hin:=P4 tp hx j;have nae:a≠e:=g7 (s3 a _ ha) he;refine ⟨_,rfl,_,rfl,a,_,_,_,rfl,rfl,g9.of (by rw[g6 nae];exact k6 a _ (s3 a _ ha) nad),X0 hin.1 hin.2,?_⟩
           have h7e:(c9 H6 e (.lst ((l6 p i j).map V.int++[.int (it p j i)]))) e=some (.lst ((l6 p i (j+1)).map V.int)):=by
             rw[c8,ar8,ec4];rfl
           refine ⟨⟨j+1,by omega,rfl,h7e,by rw[g6 nde];exact h6d,fun b o hb hn=> ?_⟩,?_⟩
           · rw[g6 (g7 hb he)];exact k6 b o hb hn
           · rw[au2 h7e,au2 h5e,eb7,eb7,q9,q9];omega
       · rintro σ H5 Q Q' hq ⟨v,hv,u,hu',dd,rr,e1,g,c,e2,e3⟩;exact ⟨v,hv,u,hu',dd,rr,e1,g,c,e2,hq _ _ e3⟩
   · rintro σ H3 ⟨as,rs,v3,v4,rfl,h3l,h3d,rows,up,s3,fa,nda,nla⟩;exact ⟨_,rfl,q l as rs H3 hl0 s3 h3l rows up fa nda nla⟩
end
end My
namespace My
open PySem L2 Mth
section
variable {P:Program} {w:World} {K:PySem.W.Frag} {mg:Str->Option Value} {base:Heap}
theorem ab8:m8 ["p","m","found","one","k"] ["p","m"] (j6 am7):=⟨rfl,rfl,rfl,by decide+kernel,rfl,by decide+kernel,by decide+kernel⟩
theorem bz6 {f:Addr}{fd:FuncData}(F:E7 K "_law_power" "_law_power" am7 f fd)(B:Bl mg)(c_law_rounds:o5 P w K mg base "_law_rounds" 1 ["p"] aa3):o8 P w K mg base G2 2 f fd ["p","m"] ah3:=by
 refine F.ok ab8 (fun vs H Q E h=> ?_) (fun cdv A outer s H vs Q E hr h=> ?_)
 · obtain ⟨a,p,k,rfl,⟨ha,tp,lp⟩,q⟩:=h;rfl
 · obtain ⟨a,p,k,rfl,⟨ha,tp,lp⟩,q⟩:=h;have hr_law_rounds:n6 1 _:=hr.mono (by decide);refine ⟨_,@c7 _ _ _ _ _ (@i6 _ _ (2) _ _ _ _ ab8.nd rfl (Or.inl rfl) (@i7 _ _ _ _ _ _ _ _ aw7 (@o6 _ _ _ _ (@c5 _ _ _ _ _ (@g8 _ _ _ _) (@c6 _) (by rfl))) (@A0 _ _ _ _ _ B.len (@c5 _ _ _ _ _ (pv 0) (@c6 _) (by rfl)) (by rfl) (by rfl))) (by rfl) (by trivial)) (@c7 _ _ _ _ _ (@o9 _ _ _ _ _ _ _ _ PassesOwn.never rfl (@E2 _ _ _ _ (@j7 _ _ _ _ _ _ _ _ _ _ c_law_rounds hr_law_rounds (@c5 _ _ _ _ _ (pv 0) (@c6 _) (by rfl)) (by rfl) (by decide) (by rfl) (by rfl))) (@i8 _ _ (3) _ ab8.nd rfl (Or.inl rfl) (by trivial)) (@e8 _ _ _ (@o9 _ _ _ _ _ _ _ _ PassesOwn.never rfl (@G5 _ _ _ _ _ _ (by rfl) B.range (@c5 _ _ _ _ _ (@A0 _ _ _ _ _ B.len (@c5 _ _ _ _ _ (pv 3) (@c6 _) (by rfl)) (by rfl) (by rfl)) (@c6 _) (by rfl)) (by rfl)) (@i8 _ _ (4) _ ab8.nd rfl (Or.inl rfl) (by trivial)) (@e8 _ _ _ (@ah6 _ _ _ _ _ _ (@J2 _ _ _ _ _ _ _ B9 (pv 3) (@i7 _ _ _ _ _ _ _ _ E4 (@i7 _ _ _ _ _ _ _ _ E3 (pv 4) (pv 1)) (@A0 _ _ _ _ _ B.len (@c5 _ _ _ _ _ (pv 3) (@c6 _) (by rfl)) (by rfl) (by rfl))) (fun _ _=>rfl)) (@an7 _ _ _ _ _ _ _ (pv 2) (@J2 _ _ _ _ _ _ _ B9 (pv 3) (pv 4) (fun _ _=>rfl)) ac8 (by intro _;rfl)) (by rfl) (by rfl) (by rfl))) (by intro _;rfl))) (by intro _;rfl)) (@e8 _ _ _ (@j9 _ _ _ _ (pv 2)))),?_⟩
   try dsimp only[y7,Cx.nox,Cx.wish]
   refine ⟨(by show 1<=sizeLine;decide),fun z0 hz0=> ?_⟩;have s1:e7 H (c9 H z0 (.lst [.int 0])):=e7.upd_new hz0;have h1z:(c9 H z0 (.lst [.int 0])) z0=some (.lst [.int 0]):=c8;generalize (c9 H z0 (.lst [.int 0]))=H1 at s1 h1z ⊢;refine ⟨_,rfl,a,_,rfl,.inl (g9.of (s1 a _ ha)),z0,_,_,rfl,rfl,h1z,by rw[eb7];omega,by rw[eb7];omega,by rw[eb7];show 1*_<=_;rw[sizeLine_eq];omega,fun l hl=> ?_⟩;have hl0:H l=none:=s1.free hl
   have erep:(ed6 ((((p.map V.int).length:Nat):Int)).toNat [V.int 0]).flatten=(ed6 p.length (0:Int)).map V.int:=by
     rw[eb7,show ((p.length:Int)).toNat=p.length by omega];exact ar7 _
   rw[erep];have s2:e7 H (c9 H1 l (.lst ((ed6 p.length (0:Int)).map V.int))):=s1.upd_r hl0;have h2l:(c9 H1 l (.lst ((ed6 p.length (0:Int)).map V.int))) l=some (.lst ((ed6 p.length (0:Int)).map V.int)):=c8;generalize (c9 H1 l (.lst ((ed6 p.length (0:Int)).map V.int)))=H2 at s2 h2l ⊢;refine ⟨_,rfl,a,p,rfl,⟨s2 a _ ha,tp,lp⟩,fun g as rs H3 hg s23 h3g rows up fa nda nga=> ?_⟩;have h3l:=s23 l _ h2l
   have ngl:g≠l:=fun z=>by rw[z,h2l] at hg;cases hg
   refine ⟨g,rfl,⟨_,g9.of h3g⟩,K2 (K:=K) (a:=g) (xs:=as.map V.ref) (fun i σ H4=>∃(ts:List Int) (v3 v4:Option V),σ=[some (.ref a),some (.int k),some (.ref l),v3,v4]/\H4 l=some (.lst (ts.map V.int))/\ts.length=p.length/\(∀x∈(rs.take i).flatten,∃L,K7 p x L/\C9 ts x=some (it p (k%(L:Int)).toNat x))/\j5 l H3 H4)
     ⟨_,none,none,rfl,h3l,el7,fun x hx=>by simp at hx,j5.refl l H3⟩ (fun i σ H4 _ ⟨_,_,_,_,_,_,_,kb⟩=>g9.of (kb g _ h3g ngl)) ?_ ?_⟩
   · rintro i y σ H4 hi ⟨ts,v3,v4,rfl,h4l,hl4,hx4,kb⟩;rw[ec1] at hi
     cases hai:as[i]? with
     |none=>rw[hai] at hi;cases hi
     |some e=>
      rw[hai] at hi;cases hi;have hil:i < as.length:=(eb9.mp hai).1;have hri:rs[i]? =some (rs[i]'(by rw[<-rows.1];exact hil)):=eb8 _;generalize hR:rs[i]'(by rw[<-rows.1];exact hil)=R at hri;have h3e:=rows.2 i e R hai hri;have hRm:R∈rs:=ec8 hri;obtain ⟨x,L,hx,pr,eR,_⟩:=up.ring R hRm
      have nle:l≠e:=fun z=>by have:=fa e (ec8 hai);rw[<-z,h2l] at this;cases this
      have h4e:=kb e _ h3e nle.symm
      have lR:R.length=L:=by rw[eR,q9]
      have Lp:=pr.pos
      have lL:=O0 tp hx (m:=L) fun j j0 j1=>pr.least j j0 j1
      have ndR:R.Nodup:=by rw[eR];exact Y5 tp hx fun j j0 j1=>pr.least j j0 j1
      have bdR:∀y∈R,0<=y/\y < p.length:=fun y hy=>by rw[eR] at hy;exact V8 tp hx y hy
      refine ⟨_,rfl,e,_,rfl,.inl (g9.of h4e),(L:Int),by rw[eb7,lR],by omega,by omega,?_⟩;rw[show ((L:Int)).toNat=L by omega]
      refine C6 (lo:=0) (n:=L) (fun j σ H5=>∃(ts':List Int) (v4:Option V),σ=[some (.ref a),some (.int k),some (.ref l),some (.ref e),v4]/\H5 l=some (.lst (ts'.map V.int))/\ts'.length=p.length/\(∀c,c < j->C9 ts' (R.getD c 0)=some (R.getD (((c:Int)+k)%(R.length:Int)).toNat 0))/\(∀u,0<=u->u∉R->C9 ts' u=C9 ts u)/\j5 l H4 H5)
        ⟨ts,v4,rfl,h4l,hl4,fun j hj=>by omega,fun u _ _=>rfl,j5.refl l H4⟩ ?_ ?_
      · rintro j σ H5 hj ⟨ts',v4,rfl,h5l,hl5,hc,hu',kb5⟩;have h5e:=kb5 e _ h4e nle.symm
        have e0:(0:Int)+(j:Int)=(j:Int):=by omega
        rw[e0];have m0:=eh7 ((j:Int)+k) (show (R.length:Int)≠0 by omega);have m1:=ek1 ((j:Int)+k) (show (0:Int) < (R.length:Int) by omega);refine ⟨_,rfl,_,rfl,_,rfl,_,_,rfl,rfl,_,rfl,e,_,rfl,.inl (g9.of h5e),?_⟩;rw[eb7];refine ⟨_,_,rfl,rfl,(by show (0:Int) < (R.length:Int);omega),e,_,_,_,rfl,rfl,g9.of h5e,X0 m0 m1,?_⟩
        have hzi:R.getD j 0∈R:=by rw[E9 (show j < R.length by omega)];exact ef2 _
        obtain ⟨z0,z1⟩:=bdR _ hzi;refine ⟨_,rfl,_,rfl,_,rfl,e,_,_,_,rfl,rfl,g9.of h5e,X0 (by omega) (by omega),l,_,_,(R.getD j 0).toNat,rfl,rfl,h5l,?_,?_⟩
        · unfold ixN;rw[eb7,show ((j:Int)).toNat=j by omega,if_pos z0,if_pos (by omega)]
        have es:(ts'.map V.int).set (R.getD j 0).toNat (.int (R.getD (((j:Int)+k)%(R.length:Int)).toNat 0))=(ts'.set (R.getD j 0).toNat (R.getD (((j:Int)+k)%(R.length:Int)).toNat 0)).map V.int:=by rw[es9]
        rw[es];refine ⟨_,_,rfl,c8,by rw[en5];exact hl5,fun c hcj=> ?_,fun u u0 un=> ?_,fun b o hb hn=> ?_⟩
        · by_cases e:c=j
          · subst e;rw[ad1 (by omega)]
          · have:R.getD c 0≠R.getD j 0:=Q4 ndR (by omega) (by omega) e;rw[Y4 (bdR _ (by rw[E9 (show c < R.length by omega)];exact ef2 _)).1 z0 this];exact hc c (by omega)
        · rw[Y4 u0 z0 (fun e=>un (e▸hzi))];exact hu' u u0 un
        · rw[g6 hn];exact kb5 b o hb hn
      · rintro σ H5 ⟨ts',v4,rfl,h5l,hl5,hj,hu',kb5⟩;refine ⟨ts',_,_,rfl,h5l,hl5,fun y hy=> ?_,kb.trans kb5⟩;rw[j8 hri,ej0,ej3] at hy
        by_cases hyR:y∈R
        · rw[eR] at hyR;obtain ⟨j,hjL,rfl⟩:=G6.mp hyR;refine ⟨L,pr.shift tp hx j,?_⟩;have:=hj j hjL;rw[lR] at this;have b0:=eh7 ((j:Int)+k) (show (L:Int)≠0 by omega);have b1:=ek1 ((j:Int)+k) (show (0:Int) < (L:Int) by omega);rw[eR,X1 hjL,X1 (by omega),cj9 pr] at this;exact this
        · rcases ed0.mp hy with g'|g'
          · obtain ⟨M,pm,em⟩:=hx4 y g';refine ⟨M,pm,?_⟩
            have y0:0<=y:=by
              obtain ⟨r,hr',hyr⟩:=ee6.mp g';obtain ⟨x',L',hx',_,er,_⟩:=up.ring r (ei5 hr');rw[er] at hyr;exact (V8 tp hx' y hyr).1
            rw[hu' y y0 hyR];exact em
          · exact absurd g' hyR
   · rintro σ H4 ⟨ts,v3,v4,rfl,h4l,hl4,hx4,kb⟩;rw[eb7,rows.1,ef3] at hx4;refine ⟨_,rfl,q l ts H4 hl0 (fun b o hb=>kb b o (s23 b o (s2 b o hb)) (g7 hb hl0)) ⟨hl4,fun x hx=>hx4 x (up.all x hx.1 hx.2)⟩ h4l⟩
end
end My
namespace My
open PySem L2 Mth
section
variable {P:Program} {w:World} {K:PySem.W.Frag} {mg:Str->Option Value} {base:Heap}
structure dd0 (H:Hp)(d:Addr)(rs:List (List Int))(kvs:List (w6×V))(ns:List Int):Prop where
 at_:H d=some (.dK kvs)
 keys:KI kvs ns
 nd:ns.Nodup
 val:∀l:Nat,(l:Int)∈ns->D0 kvs (Sum.inl (l:Int):w6)=some (.int ((t9 rs l:Nat):Int))
 all:∀z:Int,z∈ns↔∃r∈rs,z=(r.length:Int)
theorem da4 {p:List Int}(tp:x8 p){i:Nat}{rs:List (List Int)}(up:G0 p i rs):∀r∈rs,1<=r.length/\r.length<=p.length:=fun r hr=>by
 obtain ⟨y,L,hy,pr,er,_⟩:=up.ring r hr
 have b:=O0 tp hy (m:=L) fun i i0 i1=>pr.least i i0 i1
 have:=pr.pos;rw[er,q9];omega
def bf1:Sp:=fun vs H Q _=>∃(a:Addr) (p:List Int),vs=[.ref a]/\L4 H a p/\∀(d:Addr) (kvs:List (w6×V)) (ns:List Int) (H':Hp),H d=none->e7 H H'->dd0 H' d (t8 p p.length) kvs ns->(∀z∈ns,1<=z/\z<=40)->ns.length<=40->Q (.ref d) H'
theorem ag1:m8 ["p","found","one"] ["p"] (j6 aj2):=⟨rfl,rfl,rfl,by decide+kernel,rfl,by decide+kernel,by decide+kernel⟩
theorem bt0 {f:Addr}{fd:FuncData}(F:E7 K "_law_counts" "_law_counts" aj2 f fd)(B:Bl mg)(c_law_rounds:o5 P w K mg base "_law_rounds" 1 ["p"] aa3):o8 P w K mg base G2 2 f fd ["p"] bf1:=by
 refine F.ok ag1 (fun vs H Q E h=> ?_) (fun cdv A outer s H vs Q E hr h=> ?_)
 · obtain ⟨a,p,rfl,⟨ha,tp,lp⟩,q⟩:=h;rfl
 · obtain ⟨a,p,rfl,⟨ha,tp,lp⟩,q⟩:=h;have hr_law_rounds:n6 1 _:=hr.mono (by decide);have hu:=Q3 hr;refine ⟨_,@c7 _ _ _ _ _ (@i6 _ _ (1) _ _ _ _ ag1.nd rfl (Or.inl rfl) (@Z0 _ _) (by rfl) (by trivial)) (@c7 _ _ _ _ _ (@o9 _ _ _ _ _ _ _ _ PassesOwn.never rfl (@E2 _ _ _ _ (@j7 _ _ _ _ _ _ _ _ _ _ c_law_rounds hr_law_rounds (@c5 _ _ _ _ _ (pv 0) (@c6 _) (by rfl)) (by rfl) (by decide) (by rfl) (by rfl))) (@i8 _ _ (2) _ ag1.nd rfl (Or.inl rfl) (by trivial)) (@e8 _ _ _ (@ao2 _ _ _ _ _ _ _ _ _ hu (pv 1) (@A0 _ _ _ _ _ B.len (@c5 _ _ _ _ _ (pv 2) (@c6 _) (by rfl)) (by rfl) (by rfl)) (@i7 _ _ _ _ _ _ _ _ E3 (@cx4 _ _ _ _ _ _ _ _ _ hu (pv 1) (@A0 _ _ _ _ _ B.len (@c5 _ _ _ _ _ (pv 2) (@c6 _) (by rfl)) (by rfl) (by rfl)) (@g8 _ _ _ _) ⟨by rfl,by rfl,by rfl,by rfl⟩) (@g8 _ _ _ _)) rfl)) (by intro _;rfl)) (@e8 _ _ _ (@j9 _ _ _ _ (pv 1)))),?_⟩
   try dsimp only[y7,Cx.nox,Cx.wish]
   intro d hd;have s1:e7 H (c9 H d (.dK [])):=e7.upd_new hd;have h1d:(c9 H d (.dK [])) d=some (.dK []):=c8;generalize (c9 H d (.dK []))=H1 at s1 h1d ⊢;refine ⟨_,rfl,a,p,rfl,⟨s1 a _ ha,tp,lp⟩,fun g as rs H3 hg s13 h3g rows up fa nda nga=> ?_⟩;have h3d:=s13 d _ h1d
   have ngd:g≠d:=fun z=>by rw[z,h1d] at hg;cases hg
   have lrs:=rows.1;have cl:=ad9 up;have fl:=ab7 tp up
   refine ⟨g,rfl,⟨_,g9.of h3g⟩,K2 (K:=K) (a:=g) (xs:=as.map V.ref) (fun i σ H4=>∃(kvs:List (w6×V)) (ns:List Int) (v2:Option V),σ=[some (.ref a),some (.ref d),v2]/\dd0 H4 d (rs.take i) kvs ns/\ns.length<=i/\kvs.length<=i/\j5 d H3 H4)
     ⟨[],[],none,rfl,⟨h3d,rfl,ei6,fun l hl=>by simp at hl,fun z=>⟨fun h=>by simp at h,fun ⟨r,h,_⟩=>by simp at h⟩⟩,ec0 _,ec0 _,j5.refl d H3⟩ (fun i σ H4 _ ⟨_,_,_,_,_,_,_,kb⟩=>g9.of (kb g _ h3g ngd)) ?_ ?_⟩
   · rintro i y σ H4 hi ⟨kvs,ns,v2,rfl,ca,lns,lkv,kb⟩;rw[ec1] at hi
     cases hai:as[i]? with
     |none=>rw[hai] at hi;cases hi
     |some e=>
      rw[hai] at hi;cases hi;have hil:i < as.length:=(eb9.mp hai).1;have hri:rs[i]? =some (rs[i]'(by rw[<-rows.1];exact hil)):=eb8 _;generalize hR:rs[i]'(by rw[<-rows.1];exact hil)=R at hri;have h3e:=rows.2 i e R hai hri
      have nde:e≠d:=fun z=>by have:=fa e (ec8 hai);rw[z,h1d] at this;cases this
      have h4e:=kb e _ h3e nde;refine ⟨_,rfl,d,rfl,.inl ⟨_,.inl ca.at_⟩,_,rfl,e,_,rfl,.inl (g9.of h4e),?_⟩;rw[eb7];refine ⟨_,X9.k (k:=Sum.inl ((R.length:Nat):Int)) ca.at_,?_⟩
      have key:((D0 kvs (Sum.inl ((R.length:Nat):Int):w6)).getD (.int 0))= .int ((t9 (rs.take i) R.length:Nat):Int):=by
        by_cases hm:((R.length:Nat):Int)∈ns
        · rw[ca.val R.length hm];rfl
        · rw[bl6 ca.keys hm]
          have:t9 (rs.take i) R.length=0:=by
            by_cases z:t9 (rs.take i) R.length=0
            · exact z
            · obtain ⟨r,hr',e'⟩:=cf4 z;exact absurd ((ca.all _).mpr ⟨r,hr',by rw[e']⟩) hm
          rw[this];rfl
      rw[key];refine ⟨_,_,rfl,rfl,?_⟩;refine ⟨_,rfl,_,rfl,e,_,rfl,.inl (g9.of h4e),?_⟩;rw[eb7];refine ⟨d,_,rfl,ar0.k (k:=Sum.inl ((R.length:Nat):Int)) ca.at_ (t5 (by omega)),?_⟩
      have ec:(((t9 (rs.take i) R.length:Nat):Int)+1)=((t9 (rs.take (i+1)) R.length:Nat):Int):=by
        rw[j8 hri,bq2,if_pos rfl];omega
      dsimp only
      rw[ec]
      have hval:∀l:Nat,l≠R.length->t9 (rs.take (i+1)) l=t9 (rs.take i) l:=fun l hl=>by
        rw[j8 hri,bq2,if_neg (fun z=>hl z.symm)];omega
      have hall:∀z:Int,(∃r∈rs.take (i+1),z=(r.length:Int))↔(∃r∈rs.take i,z=(r.length:Int))\/z=(R.length:Int):=fun z=>by
        rw[j8 hri];constructor
        · rintro ⟨r,hr',e'⟩
          rcases ed0.mp hr' with y|y
          · exact .inl ⟨r,y,e'⟩
          · have:r=R:=by simpa using y
            rw[this] at e';exact .inr e'
        · rintro (⟨r,hr',e'⟩|e')
          · exact ⟨r,ef7 _ hr',e'⟩
          · exact ⟨R,ed8 _ (by simp),e'⟩
      have lput:=am1 kvs (Sum.inl ((R.length:Nat):Int):w6) (V.int ((t9 (rs.take (i+1)) R.length:Nat):Int))
      by_cases hm:((R.length:Nat):Int)∈ns
      · refine ⟨_,ns,_,rfl,⟨c8,dn7 ca.keys hm _,ca.nd,fun l hl=> ?_,fun z=> ?_⟩,by omega,by omega,kb.upd_a⟩
        · rw[bv8]
          by_cases e':l=R.length
          · subst e';rw[if_pos rfl]
          · rw[if_neg (fun z=>e' (by have:=Sum.inl.inj z;omega)),ca.val l hl,hval l e']
        · rw[hall,ca.all];constructor
          · exact fun h=> .inl h
          · rintro (h|h)
            · exact h
            · rw[h];exact (ca.all _).mp hm
      · refine ⟨_,ns++[((R.length:Nat):Int)],_,rfl,⟨c8,dn6 ca.keys hm _,ao3 ca.nd hm,fun l hl=> ?_,fun z=> ?_⟩,by rw[ec6];show ns.length+1<=i+1;omega,by omega,kb.upd_a⟩
        · rw[bv8]
          by_cases e':l=R.length
          · subst e';rw[if_pos rfl]
          · rw[if_neg (fun z=>e' (by have:=Sum.inl.inj z;omega))]
            rcases ed0.mp hl with y|y
            · rw[ca.val l y,hval l e']
            · have:(l:Int)=((R.length:Nat):Int):=by simpa using y
              exact absurd (by omega) e'
        · rw[hall,ed0,ca.all];constructor
          · rintro (h|h)
            · exact .inl h
            · exact .inr (by simpa using h)
          · rintro (h|h)
            · exact .inl h
            · exact .inr (by rw[h];simp)
   · rintro σ H4 ⟨kvs,ns,v2,rfl,ca,lns,lkv,kb⟩;rw[eb7] at lns ca;rw[lrs,ef3,up.eq] at ca;refine ⟨_,rfl,q d kvs ns H4 hd (fun b o hb=>kb b o (s13 b o (s1 b o hb)) (g7 hb hd)) ca (fun z hz=> ?_) (by omega)⟩;obtain ⟨r,hr',rfl⟩:=(ca.all z).mp hz;have:=da4 tp (Z2 tp) r hr';omega
end
end My
namespace My
open PySem L2 Mth
section
variable {P:Program} {w:World} {K:PySem.W.Frag} {mg:Str->Option Value} {base:Heap}
def G3 (xs:List Nat):List Int:=xs.map fun (d:Nat)=>(d:Int)
def y8 (l m j:Nat):List Nat:=((ef4 j).map (· +1)).filter fun d=>decide (ef6 (d*l) m=d)
theorem aj6 (l m j:Nat):y8 l m (j+1)=if ef6 ((j+1)*l) m=j+1 then y8 l m j++[j+1] else y8 l m j:=by
 unfold y8;rw[el8,ec4,en2];show _++List.filter _ [j+1]=_
 split
 · rename_i h;rw[ek9 (p:=fun d=>decide (ef6 (d*l) m=d)) (decide_eq_true h)];rfl
 · rename_i h;rw[el0 (p:=fun d=>decide (ef6 (d*l) m=d)) (by simpa using h),eq2,ee3]
theorem Y6 (l m j:Nat):(y8 l m j).length<=j:=by
 unfold y8;refine ed3 (el9 _ _) ?_;rw[eb7,ee9];exact ec0 _
theorem K0 {l m j d:Nat}(h:d∈y8 l m j):1<=d/\d<=j:=by
 unfold y8 at h;obtain ⟨i,hi,e⟩:=ed2.mp (ei0.mp h).1;have:=eg0.mp hi;omega
def au3:Sp:=fun vs H Q _=>∃(l m j:Nat),vs=[.int (l:Int),.int (m:Int),.int (j:Int)]/\l<=1000/\j<=1000/\∀(a:Addr) (H':Hp),H a=none->e7 H H'->H' a=some (.lst ((G3 (y8 l m j)).map V.int))->Q (.ref a) H'
theorem bf2:m8 ["length","m","most"] ["length","m","most"] (j6 ab6):=⟨rfl,rfl,rfl,by decide+kernel,rfl,by decide+kernel,by decide+kernel⟩
theorem af0:(["d","m","length"]:List Str).Nodup:=by decide+kernel
theorem bf3 {f:Addr}{fd:FuncData}(F:E7 K "right_numbers" "right_numbers" ab6 f fd)(B:Bl mg)(c_greatest_part:o5 P w K mg base "greatest_part" 1 ["a","b"] cl0):o8 P w K mg base G2 2 f fd ["length","m","most"] au3:=by
 refine F.ok bf2 (fun vs H Q E h=> ?_) (fun cdv A outer s H vs Q E hr h=> ?_)
 · obtain ⟨l,m,j,rfl,hl,hj,q⟩:=h;rfl
 · obtain ⟨l,m,j,rfl,hl,hj,q⟩:=h;have hr_greatest_part:n6 1 _:=hr.mono (by decide);refine ⟨_,@e8 _ _ _ (@j9 _ _ _ _ (@U6 _ _ _ _ _ _ _ _ _ _ _ (["d","m","length"]) (1) ([1,0]) rfl .of (@O1 _ _ _ _ _ _ _ (by rfl) B.range (@c5 _ _ _ _ _ (@g8 _ _ _ _) (@c5 _ _ _ _ _ (@i7 _ _ _ _ _ _ _ _ E3 (pv 2) (@g8 _ _ _ _)) (@c6 _) (by rfl)) (by rfl)) (by rfl) (by rfl)) (fun _ _ _ _ _=>@i8 _ _ (0) _ af0 rfl (Or.inl rfl) (by trivial)) (fun _ _ _ _ _=>@S7 _ _ _ (@m7 _ _ _ _ _ _ _ _ V1 (@j7 _ _ _ _ _ _ _ _ _ _ c_greatest_part hr_greatest_part (@c5 _ _ _ _ _ (@i7 _ _ _ _ _ _ _ _ Q1 (pv 0) (pv 2)) (@c5 _ _ _ _ _ (pv 1) (@c6 _) (by rfl)) (by rfl)) (by rfl) (by decide) (by rfl) (by rfl)) (pv 0) (n0 _))) (fun _ _ _ _ _=>(pv 0)) (by intro _;rfl))),?_⟩
   try dsimp only[y7,Cx.nox,Cx.wish]
   refine ⟨_,rfl,_,_,rfl,rfl,1,(j:Int)+1,rfl,⟨by decide,by decide,by omega,by omega⟩,?_⟩
   have en:((j:Int)+1 - 1).toNat=j:=by omega
   rw[en];refine S8 (lo:=1) (n:=j) (fun i ys σ H2=>∃v:Option V,σ=[v,some (.int (m:Int)),some (.int (l:Int))]/\H2=H/\ys=(G3 (y8 l m i)).map V.int) ⟨none,rfl,rfl,by simp [y8,G3]⟩ ?_ ?_
   · rintro i ys σ H2 hi ⟨v,rfl,rfl,rfl⟩;have li:=Y6 l m i;have es:=aj6 l m i
     have e1:(1:Int)+(i:Int)=((i+1:Nat):Int):=by omega
     refine ⟨_,rfl,_,rfl,_,_,rfl,rfl,.inr ⟨by omega,by omega⟩,_,rfl,(i+1)*l,m,?_,?_⟩
     · show [V.int ((1+(i:Int))*(l:Int)),V.int (m:Int)]++[]=_;rw[e1,<-eg2];rfl
     refine ⟨_,rfl,rfl,_,rfl,ab0 (fun h1=> ?_) (fun h1=> ?_)⟩
     · have d1:ef6 ((i+1)*l) m=i+1:=by
         have:=V.int.inj (of_decide_eq_true h1);omega
       refine ⟨_,rfl,t5 (by unfold G3;rw[eb7,eb7];omega),_,rfl,rfl,?_⟩;rw[es,if_pos d1];unfold G3;rw[ec4,ec4,e1];rfl
     · have d1:¬ef6 ((i+1)*l) m=i+1:=fun e=>h1 (decide_eq_true (congrArg V.int (by rw[e];omega)))
       refine ⟨_,rfl,rfl,?_⟩;rw[es,if_neg d1]
   · rintro ys σ H2 ⟨v,rfl,rfl,rfl⟩ D hD;exact q D _ hD (e7.upd_new hD) c8
def x6 (n l:Nat):Nat->Nat
 |0=>1
 |k+1=>x6 n l k*(n - (k+1))*l
def bf4:Sp:=fun vs H Q _=>∃(n d l:Nat),vs=[.int (n:Int),.int (d:Int),.int (l:Int)]/\1<=d/\d<=n/\n<=1000/\l<=1000/\Q (.int ((x6 n l (d - 1):Nat):Int)) H
theorem R3:m8 ["left","part","length","ways","taken"] ["left","part","length"] (j6 Z4):=⟨rfl,rfl,rfl,by decide+kernel,rfl,by decide+kernel,by decide+kernel⟩
theorem bc3 {f:Addr}{fd:FuncData}(F:E7 K "ways_to_follow" "ways_to_follow" Z4 f fd)(B:Bl mg):o8 P w K mg base G2 1 f fd ["left","part","length"] bf4:=by
 refine F.ok R3 (fun vs H Q E h=> ?_) (fun cdv A outer s H vs Q E hr h=> ?_)
 · obtain ⟨n,d,l,rfl,d1,dn,hn,hl,q⟩:=h;rfl
 · obtain ⟨n,d,l,rfl,d1,dn,hn,hl,q⟩:=h;refine ⟨_,@c7 _ _ _ _ _ (@i6 _ _ (3) _ _ _ _ R3.nd rfl (Or.inl rfl) (@g8 _ _ _ _) (by rfl) (by trivial)) (@c7 _ _ _ _ _ (@o9 _ _ _ _ _ _ _ _ PassesOwn.never rfl (@O1 _ _ _ _ _ _ _ (by rfl) B.range (@c5 _ _ _ _ _ (@g8 _ _ _ _) (@c5 _ _ _ _ _ (pv 1) (@c6 _) (by rfl)) (by rfl)) (by rfl) (by rfl)) (@i8 _ _ (4) _ R3.nd rfl (Or.inl rfl) (by trivial)) (@e8 _ _ _ (@i6 _ _ (3) _ _ _ _ R3.nd rfl (Or.inl rfl) (@i7 _ _ _ _ _ _ _ _ Q1 (@i7 _ _ _ _ _ _ _ _ Q1 (pv 3) (@i7 _ _ _ _ _ _ _ _ V5 (pv 0) (pv 4))) (pv 2)) (by rfl) (by trivial))) (by intro _;rfl)) (@e8 _ _ _ (@j9 _ _ _ _ (pv 3)))),?_⟩
   try dsimp only[y7,Cx.nox,Cx.wish]
   refine ⟨_,rfl,1,(d:Int),rfl,⟨by decide,by decide,by omega,by omega⟩,?_⟩
   have en:((d:Int) - 1).toNat=d - 1:=by omega
   rw[en];refine C6 (lo:=1) (n:=d - 1) (fun i σ H2=>∃v:Option V,σ=[some (.int (n:Int)),some (.int (d:Int)),some (.int (l:Int)),some (.int ((x6 n l i:Nat):Int)),v]/\H2=H) ⟨none,rfl,rfl⟩ ?_ ?_
   · rintro i σ H2 hi ⟨v,rfl,rfl⟩
     have e64:(2:Int)^64=18446744073709551616:=by decide
     refine ⟨_,rfl,_,rfl,_,rfl,_,_,rfl,rfl,_,_,rfl,rfl,.inr ⟨by rw[e64];omega,by rw[e64];omega⟩,_,rfl,_,_,rfl,rfl,.inr ⟨by rw[e64];omega,by rw[e64];omega⟩,some (.int (1+(i:Int))),?_,rfl⟩
     have e:((x6 n l i:Nat):Int)*((n:Int) - (1+(i:Int)))*(l:Int)=((x6 n l (i+1):Nat):Int):=by
       show _=((x6 n l i*(n - (i+1))*l:Nat):Int);rw[eg2,eg2]
       congr 2
       omega
     rw[<-e];rfl
   · rintro σ H2 ⟨v,rfl,rfl⟩;exact ⟨_,rfl,q⟩
def au4 (l:Nat)(rs cs:List Nat)(n:Nat):Nat:=((rs.filter fun d=>decide (d<=n)).map fun d=>x6 n l (d - 1)*cs.getD (n - d) 0).sum
def G8 (l:Nat)(rs:List Nat):Nat->List Nat
 |0=>[1]
 |k+1=>G8 l rs k++[au4 l rs (G8 l rs k) (k+1)]
def C2 (l m n:Nat):Nat:=(G8 l (y8 l m n) n).getD n 0
theorem Q5 (l:Nat)(rs:List Nat):∀k,(G8 l rs k).length=k+1
 |0=>rfl
 |k+1=>by
  show (G8 l rs k++[_]).length=_;rw[ec6,Q5 l rs k];rfl
theorem ay5 {n l:Nat}(h:n*l<=1600):∀k,x6 n l k<=1600^k
 |0=>ec0 _
 |k+1=>by
  show x6 n l k*(n - (k+1))*l<=_;rw[ej2,en9];refine ej6 (ay5 h k) (ed3 (ek0 _ (Nat.sub_le _ _)) h)
theorem bj5 {c:Nat}:∀{xs:List Nat},(∀x∈xs,x<=c)->xs.sum<=xs.length*c
 |[],_=>ed7 _
 |x::xs,h=>by
  have:=bj5 fun y hy=>h y (ec7 _ hy)
  have:=h x ec5;rw[ew8,eg9,en8,ev8];omega
theorem bf5 {l:Nat}{rs:List Nat}(hl:l<=40)(hr:rs.length<=40)(h1:∀d∈rs,1<=d):∀k,k<=40->∀i,(G8 l rs k).getD i 0<=1600^i
 |0,_,0=>ec0 _
 |0,_,i+1=>ed7 _
 |k+1,hk,i=>by
  have ih:=bf5 hl hr h1 k (by omega);show (G8 l rs k++[_]).getD i 0<=_;have ln:=Q5 l rs k;rw[ec3]
  by_cases z:i < k+1
  · rw[ee4 (by omega),<-ec3];exact ih i
  · rw[ee8 (by omega),ln]
    by_cases y:i=k+1
    · subst y;rw[em4];show au4 l rs (G8 l rs k) (k+1)<=_;unfold au4;refine ed3 (bj5 (c:=1600^k) fun x hx=> ?_) ?_
      · obtain ⟨d,hd,rfl⟩:=ed2.mp hx;obtain ⟨hd1,hd2⟩:=ei0.mp hd;have d1:=h1 d hd1;have d2:d<=k+1:=of_decide_eq_true hd2;have a:=ay5 (n:=k+1) (l:=l) (ed3 (ej6 hk hl) (by decide)) (d - 1);have b:=ih (k+1 - d);refine ed3 (ej6 a b) ?_;rw[<-ey9,show d - 1+(k+1 - d)=k by omega];exact ec0 _
      · rw[eb7,en9,ei2 (1600^k)];refine ek0 _ ?_;have:=el9 (fun d=>decide (d<=k+1)) rs;omega
    · rw[ed1 (by show 1<=i - (k+1);omega)];exact ed7 _
theorem cg9 {xs:List Nat}{i:Int}(h0:0<=i)(h1:i < xs.length):V7 ((G3 xs).map V.int) i=some (.int ((xs.getD i.toNat 0:Nat):Int)):=by
 have l:(G3 xs).length=xs.length:=eb7 ..;rw[Mth.X0 h0 (by rw[l];exact h1)]
 congr 2
 unfold G3;rw[ec3,ec3,ec1]
 cases xs[i.toNat]? <;>rfl
theorem ct6 {xs:List Nat}{j:Nat}{x:V}(h:((G3 xs).map V.int)[j]? =some x):∃d:Nat,xs[j]? =some d/\x= .int (d:Int):=by
 unfold G3 at h;rw[ec1,ec1] at h
 cases e:xs[j]? with
 |none=>rw[e] at h;cases h
 |some d=>rw[e] at h;exact ⟨d,rfl,(Option.some.inj h).symm⟩
theorem ch1:∀xs:List Nat,(G3 xs).sum=((xs.sum:Nat):Int)
 |[]=>rfl
 |x::xs=>by
  show (x:Int)+(G3 xs).sum=_;rw[ch1 xs,ew8,eu7]
theorem bj6 (i:Nat)(h:i<=40){n:Nat}(hn:440 < n):1600^i < 2^n:=by
 have a:1600^i<=(2^11)^i:=eo1 (by decide) i;rw[<-ew0] at a;exact ee5 a (Nat.pow_lt_pow_right (by decide) (by omega))
def bn1:Sp:=fun vs H Q _=>∃(l n m:Nat),vs=[.int (l:Int),.int (n:Int),.int (m:Int)]/\l<=40/\n<=40/\∀H':Hp,e7 H H'->Q (.int ((C2 l m n:Nat):Int)) H'
theorem R7:m8 ["length","many","m","right","counts","left","ways"] ["length","many","m"] (j6 af8):=⟨rfl,rfl,rfl,by decide+kernel,rfl,by decide+kernel,by decide+kernel⟩
theorem V0:(["part","left","length","counts"]:List Str).Nodup:=by decide+kernel
theorem bn2 {f:Addr}{fd:FuncData}(F:E7 K "count_joins" "count_joins" af8 f fd)(B:Bl mg)(c_right_numbers:o5 P w K mg base "right_numbers" 2 ["length","m","most"] au3)(c_ways_to_follow:o5 P w K mg base "ways_to_follow" 1 ["left","part","length"] bf4):o8 P w K mg base G2 3 f fd ["length","many","m"] bn1:=by
 refine F.ok R7 (fun vs H Q E h=> ?_) (fun cdv A outer s H vs Q E hr h=> ?_)
 · obtain ⟨l,n,m,rfl,hl,hn,q⟩:=h;rfl
 · obtain ⟨l,n,m,rfl,hl,hn,q⟩:=h;have hr_right_numbers:n6 2 _:=hr.mono (by decide);have hr_ways_to_follow:n6 1 _:=hr.mono (by decide);refine ⟨_,@c7 _ _ _ _ _ (@i6 _ _ (3) _ _ _ _ R7.nd rfl (Or.inl rfl) (@j7 _ _ _ _ _ _ _ _ _ _ c_right_numbers hr_right_numbers (@c5 _ _ _ _ _ (pv 0) (@c5 _ _ _ _ _ (pv 2) (@c5 _ _ _ _ _ (pv 1) (@c6 _) (by rfl)) (by rfl)) (by rfl)) (by rfl) (by decide) (by rfl) (by rfl)) (by rfl) (by trivial)) (@c7 _ _ _ _ _ (@i6 _ _ (4) _ _ _ _ R7.nd rfl (Or.inr rfl) (@o6 _ _ _ _ (@c5 _ _ _ _ _ (@g8 _ _ _ _) (@c6 _) (by rfl))) (by rfl) (by trivial)) (@c7 _ _ _ _ _ (@o9 _ _ _ _ _ _ _ _ PassesOwn.never rfl (@O1 _ _ _ _ _ _ _ (by rfl) B.range (@c5 _ _ _ _ _ (@g8 _ _ _ _) (@c5 _ _ _ _ _ (@i7 _ _ _ _ _ _ _ _ E3 (pv 1) (@g8 _ _ _ _)) (@c6 _) (by rfl)) (by rfl)) (by rfl) (by rfl)) (@i8 _ _ (5) _ R7.nd rfl (Or.inr rfl) (by trivial)) (@c7 _ _ _ _ _ (@bl2 _ (6) _ _ _ _ _ _ _ _ _ _ _ _ _ (["part","left","length","counts"]) (1) ([5,0,4]) R7.nd rfl (Or.inl rfl) rfl .of (@E2 _ _ _ _ (pv 3)) (fun _ _ _ _ _=>@i8 _ _ (0) _ V0 rfl (Or.inl rfl) (by trivial)) (fun _ _ _ _ _=>@S7 _ _ _ (@m7 _ _ _ _ _ _ _ _ ci8 (pv 0) (pv 1) (n0 _))) (fun _ _ _ _ _=>(@i7 _ _ _ _ _ _ _ _ P7 (@j7 _ _ _ _ _ _ _ _ _ _ c_ways_to_follow hr_ways_to_follow (@c5 _ _ _ _ _ (pv 1) (@c5 _ _ _ _ _ (pv 0) (@c5 _ _ _ _ _ (pv 2) (@c6 _) (by rfl)) (by rfl)) (by rfl)) (by rfl) (by decide) (by rfl) (by rfl)) (@J2 _ _ _ _ _ _ (be1 K) B9 (pv 3) (@i7 _ _ _ _ _ _ _ _ V5 (pv 1) (pv 0)) (fun _ _=>rfl)))) (by rfl) (by intro _;rfl) (by trivial)) (@e8 _ _ _ (@C3 _ _ _ _ (@C7 _ _ _ _ _ _ _ (pv 4) (@c5 _ _ _ _ _ (@dn2 _ _ _ _ _ rfl B.sum (@c5 _ _ _ _ _ (pv 6) (@c6 _) (by rfl)) (by rfl) (by rfl)) (@c6 _) (by rfl)) (by rfl) (by rfl) (by rfl) (by rfl) (by rfl)) (by rfl)))) (by intro _;rfl)) (@e8 _ _ _ (@j9 _ _ _ _ (@J2 _ _ _ _ _ _ _ B9 (pv 4) (pv 1) (fun _ _=>rfl)))))),?_⟩;refine bb7 ?_;intros
   try dsimp only[y7,Cx.nox,Cx.wish]
   refine ⟨_,rfl,_,rfl,_,rfl,l,m,n,rfl,by omega,by omega,fun ra H1 hra s1 h1=> ?_⟩;obtain ⟨rs,ers⟩:∃rs,rs=y8 l m n:=⟨_,rfl⟩;rw[<-ers] at h1;refine ⟨(show 1<=sizeLine by decide),fun cs hcs=> ?_⟩;have s2:e7 H1 (c9 H1 cs (.lst [V.int 1])):=e7.upd_new hcs;have h2:(c9 H1 cs (.lst [V.int 1])) cs=some (.lst ((G3 (G8 l rs 0)).map V.int)):=c8;have h2r:=s2 _ _ h1;have nrc:ra≠cs:=g7 h1 hcs;generalize (c9 H1 cs (.lst [V.int 1]))=H2 at s2 h2 h2r ⊢;refine ⟨_,rfl,_,_,rfl,rfl,1,(n:Int)+1,rfl,⟨by decide,by decide,by omega,by omega⟩,?_⟩
   have en:((n:Int)+1 - 1).toNat=n:=by omega
   rw[en];refine C6 (lo:=1) (n:=n) (fun i σ H3=>∃v w:Option V,σ=[some (.int (l:Int)),some (.int (n:Int)),some (.int (m:Int)),some (.ref ra),some (.ref cs),v,w]/\H3 cs=some (.lst ((G3 (G8 l rs i)).map V.int))/\j5 cs H2 H3) ⟨none,none,rfl,h2,j5.refl cs H2⟩ ?_ ?_
   · rintro i σ H3 hi ⟨v,w,rfl,h3,kb3⟩;have h3r:=kb3 _ _ h2r nrc
     have lrs:rs.length<=40:=by rw[ers];exact ed3 (Y6 l m n) hn
     have prs:∀d∈rs,1<=d:=fun d hd=>by rw[ers] at hd;exact (K0 hd).1
     have e1:(1:Int)+(i:Int)=((i+1:Nat):Int):=by omega
     rw[e1]
     refine ⟨_,rfl,ra,rfl,⟨_,g9.of h3r⟩,Z9 (K:=K) (a:=ra) (xs:=(G3 rs).map V.int) (fun j ys σ H4=>∃u:Option V,σ=[u,some (.int ((i+1:Nat):Int)),some (.int (l:Int)),some (.ref cs)]/\H4=H3/\ys=(G3 (((rs.take j).filter fun d=>decide (d<=i+1)).map fun d=>x6 (i+1) l (d - 1)*(G8 l rs i).getD (i+1 - d) 0)).map V.int)
       ⟨none,rfl,rfl,by simp [G3]⟩ (fun j ys σ H4 _ ⟨_,_,e,_⟩=>by rw[e];exact g9.of h3r) ?_ ?_⟩
     · rintro j x ys σ H4 hj ⟨u,rfl,rfl,rfl⟩;obtain ⟨d,hd,rfl⟩:=ct6 hj;have d1:=prs d (ec8 hd);have jl:j < rs.length:=(eb9.mp hd).1;refine ⟨_,rfl,_,rfl,_,_,rfl,rfl,_,rfl,ab0 (fun h1=> ?_) (fun h1=> ?_)⟩
       · have dn:d<=i+1:=by
           have:=of_decide_eq_true h1;omega
         refine ⟨_,rfl,_,rfl,_,rfl,i+1,d,l,rfl,d1,dn,by omega,by omega,_,rfl,_,rfl,_,rfl,_,_,rfl,rfl,cs,_,_,_,rfl,rfl,g9.of h3,cg9 (xs:=G8 l rs i) (by omega) (by rw[Q5];omega),_,_,rfl,rfl,⟨?_,?_⟩,?_⟩
         · rw[el1];exact ee5 (ay5 (ed3 (ej6 (show i+1<=40 by omega) hl) (by decide)) _) (bj6 (d - 1) (by omega) (by decide))
         · rw[el1];exact ee5 (bf5 hl lrs prs i (by omega) _) (bj6 _ (by omega) (by decide))
         · have lj:((rs.take j).filter fun d=>decide (d<=i+1)).length<=40:=ed3 (el9 _ _) (by rw[ee1];omega);refine ⟨t5 (by unfold G3;rw[eb7,eb7,eb7];omega),_,rfl,rfl,?_⟩;rw[j8 hd,en2,ek9 (p:=fun d=>decide (d<=i+1)) (decide_eq_true dn),eq2];unfold G3;rw[ec4,ec4,ec4]
           congr 1
           have ed:((((i+1:Nat):Int)) - (d:Int)).toNat=i+1 - d:=by omega
           show [V.int (((x6 (i+1) l (d - 1):Nat):Int)*(((G8 l rs i).getD ((((i+1:Nat):Int)) - (d:Int)).toNat 0:Nat):Int))]=[V.int ((x6 (i+1) l (d - 1)*(G8 l rs i).getD (i+1 - d) 0:Nat):Int)];rw[ed,eg2]
       · have dn:¬d<=i+1:=fun z=>h1 (decide_eq_true (by omega))
         refine ⟨_,rfl,rfl,?_⟩;rw[j8 hd,en2,el0 (p:=fun d=>decide (d<=i+1)) (by simpa using dn),eq2,ee3]
     · rintro ys σ H4 ⟨u,rfl,rfl,rfl⟩ D hD
       have ll:((G3 rs).map V.int).length=rs.length:=by unfold G3;rw[eb7,eb7]
       rw[ll,ef3]
       obtain ⟨ws,ews⟩:∃ws,ws=(rs.filter fun d=>decide (d<=i+1)).map fun d=>x6 (i+1) l (d - 1)*(G8 l rs i).getD (i+1 - d) 0:=⟨_,rfl⟩
       rw[<-ews];have s5:e7 H4 (c9 H4 D (.lst ((G3 ws).map V.int))):=e7.upd_new hD;have h5:(c9 H4 D (.lst ((G3 ws).map V.int))) D=some (.lst ((G3 ws).map V.int)):=c8;generalize (c9 H4 D (.lst ((G3 ws).map V.int)))=H5 at s5 h5 ⊢;have h5c:=s5 _ _ h3;refine ⟨_,rfl,.inl ⟨rfl,_,g9.of h5c⟩,_,rfl,D,_,rfl,g9.of h5,cs,_,_,rfl,rfl,h5c,t5 (by unfold G3;rw[eb7,eb7,Q5];omega),?_⟩;refine ⟨_,_,rfl,?_,fun x o hx hn=>by rw[g6 hn];exact s5 x o (kb3 x o hx hn)⟩;rw[c8,ch1,ews];show some (HO.lst (_++[V.int ((au4 l rs (G8 l rs i) (i+1):Nat):Int)]))=some (HO.lst ((G3 (G8 l rs i++[au4 l rs (G8 l rs i) (i+1)])).map V.int));unfold G3;rw[ec4,ec4];rfl
   · rintro σ H3 ⟨v,w,rfl,h3,kb3⟩;have s3:e7 H H3:=(s1.trans s2).kb kb3 (s1.free hcs);refine ⟨_,rfl,_,rfl,cs,_,_,_,rfl,rfl,g9.of h3,cg9 (xs:=G8 l rs n) (by omega) (by rw[Q5];omega),?_⟩;rw[eg3,ers];exact q H3 s3
theorem al4 {l m n:Nat}(hl:l<=40)(hn:n<=40):C2 l m n<=1600^40:=
 ed3 (bf5 hl (ed3 (Y6 l m n) hn) (fun _ hd=>(K0 hd).1) n hn n) (el2 (by decide) hn)
theorem bf6 {f:Nat->Nat}{c:Nat}:∀{ks:List Nat},(∀k∈ks,f k<=c)->w9 f ks<=c^ks.length
 |[],_=>ec0 _
 |k::ks,h=>by
  show f k*w9 f ks<=c^(ks.length+1);rw[en9,ei2];exact ej6 (bf6 fun x hx=>h x (ec7 _ hx)) (h k ec5)
theorem ch2 (i:Nat)(h:i<=40){n:Nat}(hn:17600 < n):(1600^40)^i < 2^n:=by
 rw[<-ew0];have a:1600^(40*i)<=(2^11)^(40*i):=eo1 (by decide) _;rw[<-ew0] at a;exact ee5 a (Nat.pow_lt_pow_right (by decide) (by omega))
theorem al5 {p:List Int}(t:x8 p){rs:List (List Int)}(up:G0 p p.length rs){ks:List Nat}(nk:ks.Nodup)(h1:∀k∈ks,∃r∈rs,r.length=k)(h2:∀r∈rs,r.length∈ks){f:Nat->Nat}(hf:∀u,t9 rs u=0->f u=1):
   w9 f ks=w9 f ((ef4 p.length).map (· +1)):=by
 refine bq1 nk ?_ (fun k hk=> ?_) fun u hu hn=> ?_
 · exact List.Pairwise.map (fun x:Nat=>x+1) (fun a b h=>by omega) (eu0 (n:=p.length))
 · obtain ⟨r,hr,rfl⟩:=h1 k hk;obtain ⟨y,L,hy,pr,er,_⟩:=up.ring r hr
   have b:=O0 t hy (m:=L) fun i i0 i1=>pr.least i i0 i1
   have:=pr.pos;rw[er,q9];exact ed2.mpr ⟨L - 1,eg0.mpr (by omega),by omega⟩
 · refine hf u ?_
   by_cases z:t9 rs u=0
   · exact z
   · obtain ⟨r,hr,rfl⟩:=cf4 z;exact absurd (h2 r hr) hn
noncomputable def M6 (p:List Int)(m:Nat):Nat:=w9 (fun l=>C2 l m (t9 (t8 p p.length) l)) ((ef4 p.length).map (· +1))
def aj7:Sp:=fun vs H Q _=>∃(a:Addr) (p:List Int) (m:Nat),vs=[.ref a,.int (m:Int)]/\L4 H a p/\1<=m/\∀H':Hp,e7 H H'->Q (.int ((M6 p m:Nat):Int)) H'
theorem N9:m8 ["p","m","by_length","many","length"] ["p","m"] (j6 Z5):=⟨rfl,rfl,rfl,by decide+kernel,rfl,by decide+kernel,by decide+kernel⟩
theorem bc4 {f:Addr}{fd:FuncData}(F:E7 K "how_many_roots" "how_many_roots" Z5 f fd)(B:Bl mg)(c_must_be_turn:o5 P w K mg base "must_be_turn" 3 ["thing"] by6)(c_must_be_from_one:o5 P w K mg base "must_be_from_one" 2 ["number"] cl1)(c_sort_by_length:o5 P w K mg base "sort_by_length" 1 ["rings"] bb6)(c_walk_rings:o5 P w K mg base "walk_rings" 2 ["p"] aa3)(c_count_joins:o5 P w K mg base "count_joins" 3 ["length","many","m"] bn1):o8 P w K mg base G2 4 f fd ["p","m"] aj7:=by
 refine F.ok N9 (fun vs H Q E h=> ?_) (fun cdv A outer s H vs Q E hr h=> ?_)
 · obtain ⟨a,p,m,rfl,⟨ha,tp,lp⟩,m1,q⟩:=h;rfl
 · obtain ⟨a,p,m,rfl,⟨ha,tp,lp⟩,m1,q⟩:=h;have hr_must_be_turn:n6 3 _:=hr.mono (by decide);have hr_must_be_from_one:n6 2 _:=hr.mono (by decide);have hr_sort_by_length:n6 1 _:=hr.mono (by decide);have hr_walk_rings:n6 2 _:=hr.mono (by decide);have hr_count_joins:n6 3 _:=hr.mono (by decide);have hu:=Q3 hr;refine ⟨_,@c7 _ _ _ _ _ (@C3 _ _ _ _ (@j7 _ _ _ _ _ _ _ _ _ _ c_must_be_turn hr_must_be_turn (@c5 _ _ _ _ _ (pv 0) (@c6 _) (by rfl)) (by rfl) (by decide) (by rfl) (by rfl)) (by rfl)) (@c7 _ _ _ _ _ (@C3 _ _ _ _ (@j7 _ _ _ _ _ _ _ _ _ _ c_must_be_from_one hr_must_be_from_one (@c5 _ _ _ _ _ (pv 1) (@c6 _) (by rfl)) (by rfl) (by decide) (by rfl) (by rfl)) (by rfl)) (@c7 _ _ _ _ _ (@i6 _ _ (2) _ _ _ _ N9.nd rfl (Or.inl rfl) (@j7 _ _ _ _ _ _ _ _ _ _ c_sort_by_length hr_sort_by_length (@c5 _ _ _ _ _ (@j7 _ _ _ _ _ _ _ _ _ _ c_walk_rings hr_walk_rings (@c5 _ _ _ _ _ (pv 0) (@c6 _) (by rfl)) (by rfl) (by decide) (by rfl) (by rfl)) (@c6 _) (by rfl)) (by rfl) (by decide) (by rfl) (by rfl)) (by rfl) (by trivial)) (@c7 _ _ _ _ _ (@i6 _ _ (3) _ _ _ _ N9.nd rfl (Or.inl rfl) (@g8 _ _ _ _) (by rfl) (by trivial)) (@c7 _ _ _ _ _ (@o9 _ _ _ _ _ _ _ _ PassesOwn.never rfl (@bl4 _ _ _ _ (pv 2)) (@i8 _ _ (4) _ N9.nd rfl (Or.inl rfl) (by trivial)) (@e8 _ _ _ (@i6 _ _ (3) _ _ _ _ N9.nd rfl (Or.inl rfl) (@i7 _ _ _ _ _ _ _ _ P7 (pv 3) (@j7 _ _ _ _ _ _ _ _ _ _ c_count_joins hr_count_joins (@c5 _ _ _ _ _ (pv 4) (@c5 _ _ _ _ _ (@A0 _ _ _ _ _ B.len (@c5 _ _ _ _ _ (@ao1 _ _ _ _ _ _ hu (pv 2) (pv 4) (fun _ _=>rfl)) (@c6 _) (by rfl)) (by rfl) (by rfl)) (@c5 _ _ _ _ _ (pv 1) (@c6 _) (by rfl)) (by rfl)) (by rfl)) (by rfl) (by decide) (by rfl) (by rfl))) (by rfl) (by trivial))) (by intro _;rfl)) (@e8 _ _ _ (@j9 _ _ _ _ (pv 3))))))),?_⟩;refine dc9 ?_;intros
   try dsimp only[y7,Cx.nox,Cx.wish]
   refine ⟨_,rfl,a,p,rfl,⟨ha,tp,lp⟩,fun H1 s1=> ?_⟩;refine ⟨_,rfl,(m:Int),rfl,by omega,?_⟩;refine ⟨_,rfl,a,p,rfl,⟨s1 a _ ha,tp,lp⟩,fun l as rs H2 hl s12 h2l rows up fa nda nla=> ?_⟩;have cl:=ad9 up;have fl:=ab7 tp up;refine ⟨l,as,rs,rfl,h2l,rows,by omega,fun d es H3 hd s23 h3d bl les fre=> ?_⟩;have s03:=(s1.trans s12).trans s23;have hd0:H d=none:=(s1.trans s12).free hd;refine ⟨_,rfl,d,C8 es,rfl,h3d,fun o=> ?_⟩;have s4:e7 H (c9 H3 d (.frz o (.dK (C8 es)))):=s03.upd_r hd0;have h4d:(c9 H3 d (.frz o (.dK (C8 es)))) d=some (.frz o (.dK (C8 es))):=c8
   have kp:∀c,c≠d->(c9 H3 d (.frz o (.dK (C8 es)))) c=H3 c:=fun c hc=>g6 hc
   generalize (c9 H3 d (.frz o (.dK (C8 es))))=H4 at s4 h4d kp ⊢
   have lkv:(C8 es).length=es.length:=by unfold C8;rw[eb7]
   have fb:∀e∈es,e.1<=40/\t9 rs e.1<=40:=fun e he=>by
     obtain ⟨r,hr',lr⟩:=bl.key e.1 (ed2.mpr ⟨e,he,rfl⟩);obtain ⟨y,L,hy,pr,er,_⟩:=up.ring r hr'
     have b:=O0 tp hy (m:=L) fun i i0 i1=>pr.least i i0 i1
     rw[er,q9] at lr;have:t9 rs e.1<=rs.length:=eu4;exact ⟨by omega,by omega⟩
   refine as2 (fun i σ H5=>∃(v:Option V),σ=[some (.ref a),some (.int (m:Int)),some (.ref d),some (.int ((w9 (fun l=>C2 l m (t9 rs l)) ((es.take i).map (·.1)):Nat):Int)),v]/\e7 H4 H5)
     ⟨none,rfl,e7.refl H4⟩ (fun i σ H5 _ ⟨_,_,e⟩=>e _ _ h4d) ?_ ?_
   · rintro i k v σ H5 hi ⟨v4,rfl,s5⟩;unfold C8 at hi;rw[ec1] at hi
     cases hE:es[i]? with
     |none=>rw[hE] at hi;cases hi
     |some e=>
      rw[hE] at hi;cases hi;have he:=ec8 hE;have il:i < es.length:=(eb9.mp hE).1;obtain ⟨cs,hcs,rcs⟩:=bl.row e he;obtain ⟨le40,lc40⟩:=fb e he
      have lcs:cs.length=t9 rs e.1:=by
        rw[rcs.1];unfold K9 t9;exact (ev0 ..).symm
      have h5x:H5 e.2=some (.lst (cs.map V.ref)):=s5 _ _ (by rw[kp _ (bl.nd e he)];exact hcs)
      have pb:w9 (fun l=>C2 l m (t9 rs l)) ((es.take i).map (·.1))<=(1600^40)^i:=by
        have:=bf6 (f:=fun l=>C2 l m (t9 rs l)) (c:=1600^40) (ks:=(es.take i).map (·.1)) fun k hk=>by
          obtain ⟨e1,he1,rfl⟩:=ed2.mp hk;obtain ⟨b1,b2⟩:=fb e1 (ei5 he1);exact al4 b1 b2
        rw[eb7,ee1,eu8 (by omega)] at this;exact this
      obtain ⟨F0,hF0⟩:∃F0,F0=w9 (fun l=>C2 l m (t9 rs l)) ((es.take i).map (·.1)):=⟨_,rfl⟩;rw[<-hF0] at pb ⊢;refine ⟨_,rfl,_,rfl,_,rfl,_,rfl,d,.ref e.2,rfl,.inl ⟨C8 es,Sum.inl (e.1:Int),.inr ⟨o,s5 _ _ h4d⟩,rfl,(ct3 bl.nk he).symm⟩,e.2,_,rfl,.inl (g9.of h5x),_,rfl,e.1,cs.length,m,?_,le40,by omega,fun H6 s6=> ?_⟩
      · show [V.int (e.1:Int),V.int (((cs.map V.ref).length:Nat):Int),V.int (m:Int)]++[]=_;rw[eb7];rfl
      refine ⟨_,_,rfl,rfl,⟨?_,?_⟩,some (.int (e.1:Int)),?_,s5.trans s6⟩
      · rw[el1];exact ee5 pb (ch2 i (by omega) (by decide))
      · rw[el1];exact ee5 (al4 le40 (by omega)) (bj6 40 (ec0 _) (by decide))
      · rw[j8 hE,ec4,show ([e].map (·.1):List Nat)=[e.1] from rfl,as3,<-hF0,<-lcs,eg2];rfl
   · rintro σ H5 ⟨v,rfl,s5⟩;rw[lkv,ef3,al5 tp up bl.nk bl.key bl.all (f:=fun l=>C2 l m (t9 rs l)) fun u hu=>by show C2 u m (t9 rs u)=1;rw[hu];rfl];have er:rs=t8 p p.length:=up.eq;rw[er];exact ⟨_,rfl,q _ (s4.trans s5)⟩
end
end My
namespace My
open PySem L2 Mth
section
variable {P:Program} {w:World} {K:PySem.W.Frag} {mg:Str->Option Value} {base:Heap} {q_TurnError q_NoTurn q_NoFit q_NoRounds q_NoNumber q_NoRoot q_TooMany q_NoKind q_NoText q_NoName q_NoRow:Addr}
def bz7 (q_NoTurn q_NoFit q_NoRounds q_NoNumber q_NoRoot q_TooMany q_NoKind q_NoText q_NoName q_NoRow:Addr):Sp:=fun vs H Q _=>∃(a:Addr) (n:Str) (C:Addr),vs=[.ref a]/\H a=some (bx5 a C)/\(n,C)∈[(("NoTurn":Str),q_NoTurn),("NoFit",q_NoFit),("NoRounds",q_NoRounds),("NoNumber",q_NoNumber),("NoRoot",q_NoRoot),("TooMany",q_TooMany),("NoKind",q_NoKind),("NoText",q_NoText),("NoName",q_NoName),("NoRow",q_NoRow)]/\∀H',e7 H H'->Q (.str n) H'
theorem di3 {q_NoTurn q_NoFit q_NoRounds q_NoNumber q_NoRoot q_TooMany q_NoKind q_NoText q_NoName q_NoRow:Addr}{n:Str}{C:Addr}(hn:(n,C)∈[(("NoTurn":Str),q_NoTurn),("NoFit",q_NoFit),("NoRounds",q_NoRounds),("NoNumber",q_NoNumber),("NoRoot",q_NoRoot),("TooMany",q_TooMany),("NoKind",q_NoKind),("NoText",q_NoText),("NoName",q_NoName),("NoRow",q_NoRow)]){ks:List V}
   (hk:ks=[.bl (decide (n="NoTurn")),.bl (decide (n="NoNumber")),.bl (decide (n="NoFit")),.bl (decide (n="TooMany")),.bl (decide (n="NoRoot")),.bl (decide (n="NoRounds")),.bl (decide (n="NoKind")),.bl (decide (n="NoText")),.bl (decide (n="NoName")),.bl (decide (n="NoRow"))]):
   ks.length=10/\ks.all Q2=true/\ks.countP (fun i=>eqV i (.bl true))=1/\∃j:Nat,j < 10/\(["NoTurn","NoNumber","NoFit","TooMany","NoRoot","NoRounds","NoKind","NoText","NoName","NoRow"]:List Str)[j]? =some n/\ks[j]? =some (.bl true)/\∀i,i < j->ks[i]? =some (.bl false):=by
 subst hk;simp only[ee0,Prod.mk.injEq,List.not_mem_nil,or_false] at hn
 rcases hn with ⟨rfl,_⟩|⟨rfl,_⟩|⟨rfl,_⟩|⟨rfl,_⟩|⟨rfl,_⟩|⟨rfl,_⟩|⟨rfl,_⟩|⟨rfl,_⟩|⟨rfl,_⟩|⟨rfl,_⟩
 · exact ⟨rfl,by decide+kernel,by decide+kernel,0,by decide+kernel,by decide+kernel,by decide+kernel,by decide+kernel⟩
 · exact ⟨rfl,by decide+kernel,by decide+kernel,2,by decide+kernel,by decide+kernel,by decide+kernel,by decide+kernel⟩
 · exact ⟨rfl,by decide+kernel,by decide+kernel,5,by decide+kernel,by decide+kernel,by decide+kernel,by decide+kernel⟩
 · exact ⟨rfl,by decide+kernel,by decide+kernel,1,by decide+kernel,by decide+kernel,by decide+kernel,by decide+kernel⟩
 · exact ⟨rfl,by decide+kernel,by decide+kernel,4,by decide+kernel,by decide+kernel,by decide+kernel,by decide+kernel⟩
 · exact ⟨rfl,by decide+kernel,by decide+kernel,3,by decide+kernel,by decide+kernel,by decide+kernel,by decide+kernel⟩
 · exact ⟨rfl,by decide+kernel,by decide+kernel,6,by decide+kernel,by decide+kernel,by decide+kernel,by decide+kernel⟩
 · exact ⟨rfl,by decide+kernel,by decide+kernel,7,by decide+kernel,by decide+kernel,by decide+kernel,by decide+kernel⟩
 · exact ⟨rfl,by decide+kernel,by decide+kernel,8,by decide+kernel,by decide+kernel,by decide+kernel,by decide+kernel⟩
 · exact ⟨rfl,by decide+kernel,by decide+kernel,9,by decide+kernel,by decide+kernel,by decide+kernel,by decide+kernel⟩
theorem Y7:m8 ["caught","kinds","words"] ["caught"] (j6 au1):=⟨rfl,rfl,rfl,by decide+kernel,rfl,by decide+kernel,by decide+kernel⟩
theorem cd6 {f:Addr}{fd:FuncData}(F:E7 K "_law_word" "_law_word" au1 f fd)(B:Bl mg)(ER:bi5 K mg q_TurnError [("NoTurn",q_NoTurn),("NoFit",q_NoFit),("NoRounds",q_NoRounds),("NoNumber",q_NoNumber),("NoRoot",q_NoRoot),("TooMany",q_TooMany),("NoKind",q_NoKind),("NoText",q_NoText),("NoName",q_NoName),("NoRow",q_NoRow)]):o8 P w K mg base G2 1 f fd ["caught"] (bz7 q_NoTurn q_NoFit q_NoRounds q_NoNumber q_NoRoot q_TooMany q_NoKind q_NoText q_NoName q_NoRow):=by
 refine F.ok Y7 (fun vs H Q E h=> ?_) (fun cdv A outer s H vs Q E hr h=> ?_)
 · obtain ⟨a,n,C,rfl,hH,hn,q⟩:=h;rfl
 · obtain ⟨a,n,C,rfl,hH,hn,q⟩:=h;refine ⟨_,@c7 _ _ _ _ _ (@i6 _ _ (1) _ _ _ _ Y7.nd rfl (Or.inl rfl) (@o6 _ _ _ _ (@c5 _ _ _ _ _ (@R5 _ _ _ _ _ _ B.isi (@c5 _ _ _ _ _ (pv 0) (@c5 _ _ _ _ _ (@O4 _ _ (.ref q_NoTurn) _ _ (by rfl) (ER.err ("NoTurn",q_NoTurn) (by simp)).mg rfl (by decide)) (@c6 _) (by rfl)) (by rfl)) (by rfl) (by rfl) (by rfl)) (@c5 _ _ _ _ _ (@R5 _ _ _ _ _ _ B.isi (@c5 _ _ _ _ _ (pv 0) (@c5 _ _ _ _ _ (@O4 _ _ (.ref q_NoNumber) _ _ (by rfl) (ER.err ("NoNumber",q_NoNumber) (by simp)).mg rfl (by decide)) (@c6 _) (by rfl)) (by rfl)) (by rfl) (by rfl) (by rfl)) (@c5 _ _ _ _ _ (@R5 _ _ _ _ _ _ B.isi (@c5 _ _ _ _ _ (pv 0) (@c5 _ _ _ _ _ (@O4 _ _ (.ref q_NoFit) _ _ (by rfl) (ER.err ("NoFit",q_NoFit) (by simp)).mg rfl (by decide)) (@c6 _) (by rfl)) (by rfl)) (by rfl) (by rfl) (by rfl)) (@c6 _) (by rfl)) (by rfl)) (by rfl))) (by rfl) (by trivial)) (@c7 _ _ _ _ _ (@i6 _ _ (1) _ _ _ _ Y7.nd rfl (Or.inl rfl) (@i7 _ _ _ _ _ _ _ _ ae6 (pv 1) (@o6 _ _ _ _ (@c5 _ _ _ _ _ (@R5 _ _ _ _ _ _ B.isi (@c5 _ _ _ _ _ (pv 0) (@c5 _ _ _ _ _ (@O4 _ _ (.ref q_TooMany) _ _ (by rfl) (ER.err ("TooMany",q_TooMany) (by simp)).mg rfl (by decide)) (@c6 _) (by rfl)) (by rfl)) (by rfl) (by rfl) (by rfl)) (@c5 _ _ _ _ _ (@R5 _ _ _ _ _ _ B.isi (@c5 _ _ _ _ _ (pv 0) (@c5 _ _ _ _ _ (@O4 _ _ (.ref q_NoRoot) _ _ (by rfl) (ER.err ("NoRoot",q_NoRoot) (by simp)).mg rfl (by decide)) (@c6 _) (by rfl)) (by rfl)) (by rfl) (by rfl) (by rfl)) (@c5 _ _ _ _ _ (@R5 _ _ _ _ _ _ B.isi (@c5 _ _ _ _ _ (pv 0) (@c5 _ _ _ _ _ (@O4 _ _ (.ref q_NoRounds) _ _ (by rfl) (ER.err ("NoRounds",q_NoRounds) (by simp)).mg rfl (by decide)) (@c6 _) (by rfl)) (by rfl)) (by rfl) (by rfl) (by rfl)) (@c6 _) (by rfl)) (by rfl)) (by rfl)))) (by rfl) (by trivial)) (@c7 _ _ _ _ _ (@i6 _ _ (1) _ _ _ _ Y7.nd rfl (Or.inl rfl) (@i7 _ _ _ _ _ _ _ _ ae6 (pv 1) (@o6 _ _ _ _ (@c5 _ _ _ _ _ (@R5 _ _ _ _ _ _ B.isi (@c5 _ _ _ _ _ (pv 0) (@c5 _ _ _ _ _ (@O4 _ _ (.ref q_NoKind) _ _ (by rfl) (ER.err ("NoKind",q_NoKind) (by simp)).mg rfl (by decide)) (@c6 _) (by rfl)) (by rfl)) (by rfl) (by rfl) (by rfl)) (@c5 _ _ _ _ _ (@R5 _ _ _ _ _ _ B.isi (@c5 _ _ _ _ _ (pv 0) (@c5 _ _ _ _ _ (@O4 _ _ (.ref q_NoText) _ _ (by rfl) (ER.err ("NoText",q_NoText) (by simp)).mg rfl (by decide)) (@c6 _) (by rfl)) (by rfl)) (by rfl) (by rfl) (by rfl)) (@c5 _ _ _ _ _ (@R5 _ _ _ _ _ _ B.isi (@c5 _ _ _ _ _ (pv 0) (@c5 _ _ _ _ _ (@O4 _ _ (.ref q_NoName) _ _ (by rfl) (ER.err ("NoName",q_NoName) (by simp)).mg rfl (by decide)) (@c6 _) (by rfl)) (by rfl)) (by rfl) (by rfl) (by rfl)) (@c6 _) (by rfl)) (by rfl)) (by rfl)))) (by rfl) (by trivial)) (@c7 _ _ _ _ _ (@C3 _ _ _ _ (@C7 _ _ _ _ _ _ _ (pv 1) (@c5 _ _ _ _ _ (@R5 _ _ _ _ _ _ B.isi (@c5 _ _ _ _ _ (pv 0) (@c5 _ _ _ _ _ (@O4 _ _ (.ref q_NoRow) _ _ (by rfl) (ER.err ("NoRow",q_NoRow) (by simp)).mg rfl (by decide)) (@c6 _) (by rfl)) (by rfl)) (by rfl) (by rfl) (by rfl)) (@c6 _) (by rfl)) (by rfl) (by rfl) (by rfl) (by rfl) (by rfl)) (by rfl)) (@dn9 _ _ _ _ _ (@B5 _ _ _ _ _ _ _ _ (@aa8 _ _ _ _ _ _ _ (@m7 _ _ _ _ _ _ _ _ bh1 (@cs0 _ K _ _ _ _ _ _ (pv 1) (@c5 _ _ _ _ _ (@M9 _ _ _ _) (@c6 _) (by rfl)) (by rfl) (by rfl) (by rfl) (by rfl) (by rfl) (by rfl)) (@g8 _ _ _ _) (n0 _)) (@aa7 _ _ _ _ (@N8 _ _ _ _ (@O6 _ _ _ (@R5 _ _ _ _ _ _ B.isi (@c5 _ _ _ _ _ (pv 0) (@c5 _ _ _ _ _ (@dg1 _ _ B.ve (by rfl)) (@c6 _) (by rfl)) (by rfl)) (by rfl) (by rfl) (by rfl)) (by intro _;rfl))))).pt (@e8 _ _ _ (@j9 _ _ _ _ (@aw3 _ _ _ _))) (@r6 _)) (@df4 _ _ _ _ _ (@dg5 _ (2) _ _ _ _ _ ["NoTurn","NoNumber","NoFit","TooMany","NoRoot","NoRounds","NoKind","NoText","NoName","NoRow"] (by decide+kernel) Y7.nd rfl (Or.inl rfl) (by rfl) (by trivial)) (@e8 _ _ _ (@j9 _ _ _ _ (@J2 _ _ _ _ _ _ _ B9 (pv 2) (@cs1 _ K _ _ _ _ _ _ (pv 1) (@c5 _ _ _ _ _ (@M9 _ _ _ _) (@c6 _) (by rfl)) (by rfl) (by rfl) (by rfl) (by rfl) (by rfl) (by rfl)) (fun _ _=>rfl))))))))),?_⟩
   refine cl2 ?_;intros
   try dsimp only[y7,Cx.nox,Cx.wish]
   have IC:=ER.inst (n,C) hn;have p0:=ER.pair (n,C) hn ("NoTurn",q_NoTurn) (by simp);have p1:=ER.pair (n,C) hn ("NoNumber",q_NoNumber) (by simp);have p2:=ER.pair (n,C) hn ("NoFit",q_NoFit) (by simp);have p3:=ER.pair (n,C) hn ("TooMany",q_TooMany) (by simp);have p4:=ER.pair (n,C) hn ("NoRoot",q_NoRoot) (by simp);have p5:=ER.pair (n,C) hn ("NoRounds",q_NoRounds) (by simp);have p6:=ER.pair (n,C) hn ("NoKind",q_NoKind) (by simp);have p7:=ER.pair (n,C) hn ("NoText",q_NoText) (by simp);have p8:=ER.pair (n,C) hn ("NoName",q_NoName) (by simp);have p9:=ER.pair (n,C) hn ("NoRow",q_NoRow) (by simp);obtain ⟨k0,hk0⟩:∃b,b=decide (n="NoTurn"):=⟨_,rfl⟩;obtain ⟨k1,hk1⟩:∃b,b=decide (n="NoNumber"):=⟨_,rfl⟩;obtain ⟨k2,hk2⟩:∃b,b=decide (n="NoFit"):=⟨_,rfl⟩;obtain ⟨k3,hk3⟩:∃b,b=decide (n="TooMany"):=⟨_,rfl⟩;obtain ⟨k4,hk4⟩:∃b,b=decide (n="NoRoot"):=⟨_,rfl⟩;obtain ⟨k5,hk5⟩:∃b,b=decide (n="NoRounds"):=⟨_,rfl⟩;obtain ⟨k6,hk6⟩:∃b,b=decide (n="NoKind"):=⟨_,rfl⟩;obtain ⟨k7,hk7⟩:∃b,b=decide (n="NoText"):=⟨_,rfl⟩;obtain ⟨k8,hk8⟩:∃b,b=decide (n="NoName"):=⟨_,rfl⟩;obtain ⟨k9,hk9⟩:∃b,b=decide (n="NoRow"):=⟨_,rfl⟩
   replace p0:=p0.trans (congrArg some hk0.symm)
   replace p1:=p1.trans (congrArg some hk1.symm)
   replace p2:=p2.trans (congrArg some hk2.symm)
   replace p3:=p3.trans (congrArg some hk3.symm)
   replace p4:=p4.trans (congrArg some hk4.symm)
   replace p5:=p5.trans (congrArg some hk5.symm)
   replace p6:=p6.trans (congrArg some hk6.symm)
   replace p7:=p7.trans (congrArg some hk7.symm)
   replace p8:=p8.trans (congrArg some hk8.symm)
   replace p9:=p9.trans (congrArg some hk9.symm)
   refine ⟨_,rfl,a,C,_,_,_,rfl,.inl ⟨_,rfl,rfl⟩,hH,IC,p0,_,rfl,a,C,_,_,_,rfl,.inl ⟨_,rfl,rfl⟩,hH,IC,p1,_,rfl,a,C,_,_,_,rfl,.inl ⟨_,rfl,rfl⟩,hH,IC,p2,(show 3<=sizeLine by decide),fun l1 h1=> ?_⟩;obtain ⟨H1,eH1⟩:∃Hn,Hn=c9 H l1 (.lst [V.bl (k0),V.bl (k1),V.bl (k2)]):=⟨_,rfl⟩;have sH1:e7 H H1:=eH1▸e7.upd_new h1
   have gH1:H1 l1=some (.lst [V.bl (k0),V.bl (k1),V.bl (k2)]):=by rw[eH1];exact c8
   refine eH1▸(?_:n5 _ _ _ _ H1);have a1:=sH1 a _ hH;refine ⟨_,rfl,_,rfl,a,C,_,_,_,rfl,.inl ⟨_,rfl,rfl⟩,a1,IC,p3,_,rfl,a,C,_,_,_,rfl,.inl ⟨_,rfl,rfl⟩,a1,IC,p4,_,rfl,a,C,_,_,_,rfl,.inl ⟨_,rfl,rfl⟩,a1,IC,p5,(show 3<=sizeLine by decide),fun l2 h2=> ?_⟩;obtain ⟨H2,eH2⟩:∃Hn,Hn=c9 H1 l2 (.lst [V.bl (k3),V.bl (k4),V.bl (k5)]):=⟨_,rfl⟩;have sH2:e7 H1 H2:=eH2▸e7.upd_new h2
   have gH2:H2 l2=some (.lst [V.bl (k3),V.bl (k4),V.bl (k5)]):=by rw[eH2];exact c8
   refine ⟨l1,l2,[V.bl (k0),V.bl (k1),V.bl (k2)],[V.bl (k3),V.bl (k4),V.bl (k5)],rfl,rfl,e7.upd_new h2 _ _ gH1,c8,(show 6<=sizeLine by decide),fun l3 h3=> ?_⟩;have h3:H2 l3=none:=eH2▸h3;obtain ⟨H3,eH3⟩:∃Hn,Hn=c9 H2 l3 (.lst [V.bl (k0),V.bl (k1),V.bl (k2),V.bl (k3),V.bl (k4),V.bl (k5)]):=⟨_,rfl⟩;have sH3:e7 H2 H3:=eH3▸e7.upd_new h3
   have gH3:H3 l3=some (.lst [V.bl (k0),V.bl (k1),V.bl (k2),V.bl (k3),V.bl (k4),V.bl (k5)]):=by rw[eH3];exact c8
   refine (show c9 (c9 H1 l2 _) l3 _=H3 by rw[eH3,eH2])▸(?_:n5 _ _ _ _ H3);have a3:=sH3 a _ (sH2 a _ a1);refine ⟨_,rfl,_,rfl,a,C,_,_,_,rfl,.inl ⟨_,rfl,rfl⟩,a3,IC,p6,_,rfl,a,C,_,_,_,rfl,.inl ⟨_,rfl,rfl⟩,a3,IC,p7,_,rfl,a,C,_,_,_,rfl,.inl ⟨_,rfl,rfl⟩,a3,IC,p8,(show 3<=sizeLine by decide),fun l4 h4=> ?_⟩;obtain ⟨H4,eH4⟩:∃Hn,Hn=c9 H3 l4 (.lst [V.bl (k6),V.bl (k7),V.bl (k8)]):=⟨_,rfl⟩;have sH4:e7 H3 H4:=eH4▸e7.upd_new h4
   have gH4:H4 l4=some (.lst [V.bl (k6),V.bl (k7),V.bl (k8)]):=by rw[eH4];exact c8
   refine ⟨l3,l4,[V.bl (k0),V.bl (k1),V.bl (k2),V.bl (k3),V.bl (k4),V.bl (k5)],[V.bl (k6),V.bl (k7),V.bl (k8)],rfl,rfl,e7.upd_new h4 _ _ gH3,c8,(show 9<=sizeLine by decide),fun l5 h5=> ?_⟩;have h5:H4 l5=none:=eH4▸h5;obtain ⟨H5,eH5⟩:∃Hn,Hn=c9 H4 l5 (.lst [V.bl (k0),V.bl (k1),V.bl (k2),V.bl (k3),V.bl (k4),V.bl (k5),V.bl (k6),V.bl (k7),V.bl (k8)]):=⟨_,rfl⟩;have sH5:e7 H4 H5:=eH5▸e7.upd_new h5
   have gH5:H5 l5=some (.lst [V.bl (k0),V.bl (k1),V.bl (k2),V.bl (k3),V.bl (k4),V.bl (k5),V.bl (k6),V.bl (k7),V.bl (k8)]):=by rw[eH5];exact c8
   refine (show c9 (c9 H3 l4 _) l5 _=H5 by rw[eH5,eH4])▸(?_:n5 _ _ _ _ H5);have a5:=sH5 a _ (sH4 a _ a3);refine ⟨_,rfl,.inl ⟨rfl,_,g9.of gH5⟩,_,rfl,a,C,_,_,_,rfl,.inl ⟨_,rfl,rfl⟩,a5,IC,p9,l5,_,_,rfl,rfl,gH5,(show 10<=sizeLine by decide),?_⟩;have S5:e7 H H4:=sH1.trans (sH2.trans (sH3.trans sH4));obtain ⟨H6,eH6⟩:∃Hn,Hn=c9 H5 l5 (.lst [V.bl (k0),V.bl (k1),V.bl (k2),V.bl (k3),V.bl (k4),V.bl (k5),V.bl (k6),V.bl (k7),V.bl (k8),V.bl (k9)]):=⟨_,rfl⟩
   have gH6:H6 l5=some (.lst [V.bl (k0),V.bl (k1),V.bl (k2),V.bl (k3),V.bl (k4),V.bl (k5),V.bl (k6),V.bl (k7),V.bl (k8),V.bl (k9)]):=by rw[eH6];exact c8
   have s6:e7 H H6:=eH6▸(S5.trans sH5).upd_r (S5.free h5);have a6:=s6 a _ hH;refine eH6▸(?_:n5 _ _ _ _ H6);obtain ⟨kl,fl,cnt,j,hj,wj,kj,kb⟩:=di3 hn (ks:=[V.bl (k0),V.bl (k1),V.bl (k2),V.bl (k3),V.bl (k4),V.bl (k5),V.bl (k6),V.bl (k7),V.bl (k8),V.bl (k9)]) (by rw[hk0,hk1,hk2,hk3,hk4,hk5,hk6,hk7,hk8,hk9]);generalize [V.bl (k0),V.bl (k1),V.bl (k2),V.bl (k3),V.bl (k4),V.bl (k5),V.bl (k6),V.bl (k7),V.bl (k8),V.bl (k9)]=ks at gH6 kl fl cnt kj kb;refine ⟨_,rfl,.inl ⟨rfl,_,g9.of gH6⟩,⟨l5,ks,.bl true,rfl,rfl,rfl,fl,gH6,?_⟩⟩;rw[cnt];refine ⟨rfl,_,rfl,?_⟩;refine B6 ⟨_,rfl,a,C,_,_,_,rfl,.inr ⟨_,rfl,rfl⟩,a6,IC,ER.ve (n,C) hn,_,rfl,?_⟩;refine B6 ?_;refine ⟨(show 10<=sizeLine by decide),fun l7 h7=> ?_⟩;have hjk:j < ks.length:=(eb9.mp kj).1;refine ⟨_,rfl,_,rfl,.inl ⟨rfl,_,g9.of (e7.upd_new h7 _ _ gH6)⟩,⟨l5,ks,.bl true,j,rfl,rfl,rfl,fl,e7.upd_new h7 _ _ gH6,⟨_,kj,rfl⟩,fun i y hi e=> ?_,?_,?_⟩⟩
   · rw[kb i hi] at e;cases e;rfl
   · omega
   · refine ⟨l7,_,_,_,rfl,rfl,g9.of c8,C4 (by rw[ec1,wj];rfl),q _ (s6.trans (e7.upd_new h7))⟩
end
end My
namespace My
open PySem L2 Mth
section
variable {P:Program} {w:World} {K:PySem.W.Frag} {mg:Str->Option Value} {base:Heap} {q_TurnError q_NoTurn q_NoFit q_NoRounds q_NoNumber q_NoRoot q_TooMany q_NoKind q_NoText q_NoName q_NoRow:Addr}
def l9:Nat->Nat
 |0=>1
 |n+1=>(n+1)*l9 n
theorem aa4:∀n,0 < l9 n
 |0=>by decide
 |n+1=>ej8 (Nat.succ_pos n) (aa4 n)
def y9:Nat->Nat->Nat
 |_,0=>1
 |0,_+1=>0
 |n+1,k+1=>y9 n k+y9 n (k+1)
theorem aj8:∀{n k:Nat},n < k->y9 n k=0
 |0,k+1,_=>rfl
 |n+1,k+1,h=>by
  show y9 n k+y9 n (k+1)=0;rw[aj8 (show n < k by omega),aj8 (show n < k+1 by omega)]
theorem ah4:∀{n k:Nat},k<=n->y9 n k*(l9 k*l9 (n - k))=l9 n
 |n,0,_=>by
  cases n<;>simp [y9,l9]
 |n+1,k+1,h=>by
  have a:=ah4 (n:=n) (k:=k) (by omega);show (y9 n k+y9 n (k+1))*(l9 (k+1)*l9 (n+1 - (k+1)))=l9 (n+1);rw[show n+1 - (k+1)=n - k by omega,en8]
  have e1:y9 n k*(l9 (k+1)*l9 (n - k))=(k+1)*l9 n:=by
    rw[<-a];show y9 n k*(((k+1)*l9 k)*l9 (n - k))=_
    ac_rfl
  rw[e1]
  by_cases z:k=n
  · subst z;rw[aj8 (show k < k+1 by omega),eh4,ej1];rfl
  · have b:=ah4 (n:=n) (k:=k+1) (by omega)
    have e2:y9 n (k+1)*(l9 (k+1)*l9 (n - k))=(n - k)*l9 n:=by
      rw[<-b,show n - k=(n - (k+1))+1 by omega];show y9 n (k+1)*(l9 (k+1)*((n - (k+1)+1)*l9 (n - (k+1))))=_
      ac_rfl
    rw[e2,<-en8,show k+1+(n - k)=n+1 by omega];rfl
def E5 (d:Nat):Nat->Nat->Nat
 |_,0=>1
 |0,_+1=>0
 |n+1,k+1=>y9 n (d - 1)*E5 d (n+1 - d) k+E5 d n (k+1)
termination_by n k=>n+k
decreasing_by all_goals omega
theorem ae5 (d n:Nat):E5 d n 0=1:=by cases n<;>simp [E5]
theorem br0 (d k:Nat):E5 d 0 (k+1)=0:=by simp [E5]
theorem au5 (d n k:Nat):E5 d (n+1) (k+1)=y9 n (d - 1)*E5 d (n+1 - d) k+E5 d n (k+1):=by rw[E5]
theorem T0 {d:Nat}(hd:1<=d):∀(n k:Nat),n < k*d->E5 d n k=0
 |n,0,h=>by omega
 |0,k+1,h=>br0 d k
 |n+1,k+1,h=>by
  rw[au5];have e:(k+1)*d=k*d+d:=em8 k d;rw[T0 hd n (k+1) (by omega),ej1]
  by_cases z:n < d - 1
  · rw[aj8 z,eh4]
  · rw[T0 hd (n+1 - d) k (by omega),ek3]
termination_by n k=>n+k
theorem af1 {d:Nat}(hd:1<=d):∀(n k:Nat),k*d<=n->E5 d n k*(l9 (n - k*d)*l9 d^k*l9 k)=l9 n
 |n,0,h=>by rw[ae5];simp [l9]
 |0,k+1,h=>by
  have e:(k+1)*d=k*d+d:=em8 k d;omega
 |n+1,k+1,h=>by
  have e:(k+1)*d=k*d+d:=em8 k d;rw[au5,en8];have a:=af1 hd (n+1 - d) k (by omega);have c:=ah4 (n:=n) (k:=d - 1) (by omega);obtain ⟨d',rfl⟩:∃d',d=d'+1:=⟨d - 1,by omega⟩;rw[show n - (d'+1 - 1)=n+1 - (d'+1) by omega] at c
  have e1:y9 n (d'+1 - 1)*E5 (d'+1) (n+1 - (d'+1)) k*(l9 (n+1 - (k+1)*(d'+1))*l9 (d'+1)^(k+1)*l9 (k+1))=(d'+1)*(k+1)*l9 n:=by
    rw[show n+1 - (k+1)*(d'+1)=n+1 - (d'+1) - k*(d'+1) by omega,<-c,<-a,en9];rw[show l9 (d'+1)=(d'+1)*l9 (d'+1 - 1) from rfl,show l9 (k+1)=(k+1)*l9 k from rfl]
    ac_rfl
  rw[e1]
  by_cases z:(k+1)*(d'+1)=n+1
  · rw[T0 hd n (k+1) (by omega),eh4,ej1,ei2 (d'+1),z];rfl
  · have b:=af1 hd n (k+1) (by omega)
    have e2:E5 (d'+1) n (k+1)*(l9 (n+1 - (k+1)*(d'+1))*l9 (d'+1)^(k+1)*l9 (k+1))=(n+1 - (k+1)*(d'+1))*l9 n:=by
      rw[<-b,show n+1 - (k+1)*(d'+1)=(n - (k+1)*(d'+1))+1 by omega];rw[show l9 (n - (k+1)*(d'+1)+1)=(n - (k+1)*(d'+1)+1)*l9 (n - (k+1)*(d'+1)) from rfl]
      ac_rfl
    rw[e2,<-en8,ei2 (d'+1),show (k+1)*(d'+1)+(n+1 - (k+1)*(d'+1))=n+1 by omega];rfl
termination_by n k=>n+k
theorem cl3 {d n e k:Nat}(hd:1<=d)(he:1<=e)(h:k*d+e<=n):y9 (n - 1) (e - 1)*E5 d (n - e) k=E5 d (n - 1) k*y9 (n - k*d - 1) (e - 1):=by
 have a:=ah4 (n:=n - 1) (k:=e - 1) (by omega);have b:=af1 hd (n - e) k (by omega);have c:=af1 hd (n - 1) k (by omega);have f:=ah4 (n:=n - k*d - 1) (k:=e - 1) (by omega);rw[show n - 1 - (e - 1)=n - e by omega] at a;rw[show n - e - k*d=n - k*d - e by omega] at b;rw[show n - 1 - k*d=n - k*d - 1 by omega] at c;rw[show n - k*d - 1 - (e - 1)=n - k*d - e by omega] at f;have pos:0 < l9 (e - 1)*(l9 (n - k*d - e)*l9 d^k*l9 k):=ej8 (aa4 _) (ej8 (ej8 (aa4 _) (Nat.pow_pos (aa4 _))) (aa4 _));refine er4 pos ?_
 have x:y9 (n - 1) (e - 1)*E5 d (n - e) k*(l9 (e - 1)*(l9 (n - k*d - e)*l9 d^k*l9 k))=l9 (n - 1):=by
   rw[<-a,<-b];ac_rfl
 have y:E5 d (n - 1) k*y9 (n - k*d - 1) (e - 1)*(l9 (e - 1)*(l9 (n - k*d - e)*l9 d^k*l9 k))=l9 (n - 1):=by
   rw[<-c,<-f];ac_rfl
 rw[x,y]
theorem ay6 {l:Nat}:∀{n d:Nat},d+1<=n->x6 n l d=y9 (n - 1) d*(l9 d*l^d):=by
 have fall:∀(d n:Nat),d+1<=n->x6 n l d*l9 (n - 1 - d)=l9 (n - 1)*l^d:=by
   intro d
   induction d with
   |zero=>intro n h;simp [x6]
   |succ d ih=>
    intro n h;have:=ih n (by omega);show x6 n l d*(n - (d+1))*l*l9 (n - 1 - (d+1))=_;rw[en9,<-ej2,<-this];rw[show n - 1 - d=(n - 1 - (d+1))+1 by omega];rw[show l9 (n - 1 - (d+1)+1)=(n - 1 - (d+1)+1)*l9 (n - 1 - (d+1)) from rfl,show n - (d+1)=n - 1 - (d+1)+1 by omega]
    ac_rfl
 intro n d h;refine er4 (aa4 (n - 1 - d)) ?_;rw[fall d n h,<-ah4 (n:=n - 1) (k:=d) (by omega)]
 ac_rfl
def E8:Nat->(Nat->Nat)->Nat
 |0,_=>0
 |n+1,f=>E8 n f+f n
theorem Q6 {f g:Nat->Nat}:∀{n:Nat},(∀k,k < n->f k=g k)->E8 n f=E8 n g
 |0,_=>rfl
 |n+1,h=>by
  show E8 n f+f n=E8 n g+g n;rw[Q6 fun k hk=>h k (by omega),h n (by omega)]
theorem bf7 (f g:Nat->Nat):∀n,E8 n (fun k=>f k+g k)=E8 n f+E8 n g
 |0=>rfl
 |n+1=>by
  show E8 n (fun k=>f k+g k)+(f n+g n)=E8 n f+f n+(E8 n g+g n);rw[bf7 f g n];omega
theorem au6 (c:Nat)(f:Nat->Nat):∀n,c*E8 n f=E8 n fun k=>c*f k
 |0=>rfl
 |n+1=>by
  show c*(E8 n f+f n)=E8 n (fun k=>c*f k)+c*f n;rw[es0,au6 c f n]
theorem ag8 (f:Nat->Nat):∀n,E8 (n+1) f=f 0+E8 n fun k=>f (k+1)
 |0=>by show 0+f 0=f 0+0;omega
 |n+1=>by
  show E8 (n+1) f+f (n+1)=f 0+(E8 n (fun k=>f (k+1))+f (n+1));rw[ag8 f n];omega
theorem ct7 {f:Nat->Nat}{n m:Nat}(h:n<=m)(z:∀k,n<=k->k < m->f k=0):E8 m f=E8 n f:=by
 induction m with
 |zero=>rw[show n=0 by omega]
 |succ m ih=>
  by_cases e:n=m+1
  · rw[e]
  · show E8 m f+f m=E8 n f;rw[ih (by omega) fun k h1 h2=>z k h1 (by omega),z m (by omega) (by omega)];rfl
theorem al6 {f:Nat->Nat}:∀{n:Nat},(∀k,k < n->f k=0)->E8 n f=0
 |0,_=>rfl
 |n+1,h=>by
  show E8 n f+f n=0;rw[al6 fun k hk=>h k (by omega),h n (by omega)]
def N0 (rs:List Nat)(f:Nat->Nat):Nat:=(rs.map f).sum
theorem N3 (r:Nat)(rs:List Nat)(f:Nat->Nat):N0 (r::rs) f=f r+N0 rs f:=by unfold N0;rw[eg6,ew8]
theorem ct8 (r:Nat)(rs:List Nat)(f:Nat->Nat):N0 (rs++[r]) f=N0 rs f+f r:=by unfold N0;rw[ec4,en6];simp
theorem X6 {f g:Nat->Nat}:∀{rs:List Nat},(∀r∈rs,f r=g r)->N0 rs f=N0 rs g
 |[],_=>rfl
 |r::rs,h=>by rw[N3,N3,h r ec5,X6 fun x hx=>h x (ec7 _ hx)]
theorem bf8 (c:Nat)(f:Nat->Nat):∀rs,c*N0 rs f=N0 rs fun r=>c*f r
 |[]=>rfl
 |r::rs=>by rw[N3,N3,es0,bf8 c f rs]
theorem bz8 (n:Nat)(f:Nat->Nat->Nat):∀rs:List Nat,N0 rs (fun r=>E8 n (f r))=E8 n fun k=>N0 rs fun r=>f r k
 |[]=>by
  have:∀n,E8 n (fun k=>N0 [] fun r=>f r k)=0:=fun n=>by
    induction n with
    |zero=>rfl
    |succ n ih=>show E8 n _+0=0;rw[ih]
  rw[this];rfl
 |r::rs=>by
  rw[N3,bz8 n f rs,<-bf7]
  exact Q6 fun k _=>by rw[N3]
def Jn (l:Nat)(rs:List Nat)(j:Nat->Nat):Prop:=j 0=1/\∀n,1<=n->j n=N0 rs fun d=>if d<=n then x6 n l (d - 1)*j (n - d) else 0
def M1 (l d:Nat):Nat:=l9 (d - 1)*l^(d - 1)
theorem Jn.more {l d:Nat}{rs:List Nat}{j i:Nat->Nat}(hd:1<=d)(h1:∀r∈rs,1<=r)(hj:Jn l rs j)(hi:Jn l (rs++[d]) i):∀n N:Nat,n < N->i n=E8 N fun k=>E5 d n k*M1 l d^k*j (n - k*d):=by
 intro n
 induction n using Nat.strongRecOn with
 |ind n ih=>
 intro N hN;obtain ⟨N,rfl⟩:∃m,N=m+1:=⟨N - 1,by omega⟩
 rcases eo6 n with rfl|n1
 · rw[hi.1,ag8,ae5,et0,eh4,Nat.sub_zero,hj.1];rw[al6 fun k _=>by rw[br0,eh4,eh4]]
 rw[hi.2 n n1,ct8]
 have A:(N0 rs fun e=>if e<=n then x6 n l (e - 1)*i (n - e) else 0)=E8 (N+1) fun k=>E5 d (n - 1) k*M1 l d^k*(if k*d < n then j (n - k*d) else 0):=by
   have a1:(N0 rs fun e=>if e<=n then x6 n l (e - 1)*i (n - e) else 0)=N0 rs fun e=>E8 (N+1) fun k=>M1 l d^k*(if e<=n then x6 n l (e - 1)*E5 d (n - e) k*j (n - e - k*d) else 0):=by
     refine X6 fun e he=> ?_
     have e1:=h1 e he
     by_cases c:e<=n
     · rw[if_pos c,ih (n - e) (by omega) (N+1) (by omega),au6]
       refine Q6 fun k _=> ?_
       rw[if_pos c];ac_rfl
     · rw[if_neg c,al6 fun k _=>by rw[if_neg c,ek3]]
   rw[a1,bz8]
   refine Q6 fun k _=> ?_
   rw[<-bf8]
   by_cases c:k*d < n
   · rw[if_pos c,hj.2 (n - k*d) (by omega)]
     have:(N0 rs fun e=>if e<=n then x6 n l (e - 1)*E5 d (n - e) k*j (n - e - k*d) else 0)=E5 d (n - 1) k*N0 rs fun e=>if e<=n - k*d then x6 (n - k*d) l (e - 1)*j (n - k*d - e) else 0:=by
       rw[bf8]
       refine X6 fun e he=> ?_
       have e1:=h1 e he
       by_cases c2:e<=n - k*d
       · rw[if_pos c2,if_pos (by omega),ay6 (show e - 1+1<=n by omega),ay6 (show e - 1+1<=n - k*d by omega),show n - e - k*d=n - k*d - e by omega];have s:=cl3 (d:=d) (n:=n) (e:=e) (k:=k) hd e1 (by omega)
         have:y9 (n - 1) (e - 1)*(l9 (e - 1)*l^(e - 1))*E5 d (n - e) k=E5 d (n - 1) k*(y9 (n - k*d - 1) (e - 1)*(l9 (e - 1)*l^(e - 1))):=by
           calc _=(y9 (n - 1) (e - 1)*E5 d (n - e) k)*(l9 (e - 1)*l^(e - 1)):=by ac_rfl
             _=_:=by rw[s];ac_rfl
         rw[this];ac_rfl
       · rw[if_neg c2,ek3]
         by_cases c3:e<=n
         · rw[if_pos c3,T0 hd (n - e) k (by omega),ek3,eh4]
         · rw[if_neg c3]
     rw[this];ac_rfl
   · rw[if_neg c,ek3]
     have:(N0 rs fun e=>if e<=n then x6 n l (e - 1)*E5 d (n - e) k*j (n - e - k*d) else 0)=N0 rs fun _=>0:=X6 fun e he=>by
       have e1:=h1 e he
       by_cases c3:e<=n
       · rw[if_pos c3,T0 hd (n - e) k (by omega),ek3,eh4]
       · rw[if_neg c3]
     have z:∀rs:List Nat,(N0 rs fun _=>0)=0:=fun rs=>by
       induction rs with
       |nil=>rfl
       |cons r rs ih=>rw[N3,ih]
     rw[this,z,ek3]
 have B:(if d<=n then x6 n l (d - 1)*i (n - d) else 0)=E8 N fun k=>y9 (n - 1) (d - 1)*E5 d (n - d) k*M1 l d^(k+1)*j (n - (k+1)*d):=by
   by_cases c:d<=n
   · rw[if_pos c,ay6 (show d - 1+1<=n by omega),ih (n - d) (by omega) N (by omega),au6]
     refine Q6 fun k _=> ?_
     rw[en9,show n - d - k*d=n - (k+1)*d by rw[em8];omega];unfold M1
     ac_rfl
   · rw[if_neg c];rw[al6 fun k _=>by rw[aj8 (show n - 1 < d - 1 by omega),eh4,eh4,eh4]]
 rw[A,B,ag8,ag8 (fun k=>E5 d n k*M1 l d^k*j (n - k*d)),er5,<-bf7]
 congr 1
 · rw[ae5,ae5,eh4,if_pos n1]
 · refine Q6 fun k _=> ?_
   obtain ⟨m,rfl⟩:∃m,n=m+1:=⟨n - 1,by omega⟩;rw[au5,ev6]
   by_cases c:(k+1)*d < m+1
   · rw[if_pos c,<-en8,<-en8,ej4]
   · rw[if_neg c,ek3,ej5,T0 hd m (k+1) (by omega),ej1 (y9 m (d - 1)*_)]
theorem Jn.none {l:Nat}{j:Nat->Nat}(h:Jn l [] j){n:Nat}(n1:1<=n):j n=0:=h.2 n n1
def jf (l:Nat)(rs:List Nat)(n:Nat):Nat:=(G8 l rs n).getD n 0
theorem br1 (l:Nat)(rs:List Nat):∀(k i:Nat),i<=k->(G8 l rs k).getD i 0=jf l rs i
 |0,i,h=>by rw[show i=0 by omega];rfl
 |k+1,i,h=>by
  by_cases e:i=k+1
  · rw[e];rfl
  · show (G8 l rs k++[_]).getD i 0=_;rw[ec3,ee4 (by rw[Q5];omega),<-ec3];exact br1 l rs k i (by omega)
theorem bd4 (n:Nat)(f:Nat->Nat):∀rs:List Nat,((rs.filter fun d=>decide (d<=n)).map f).sum=N0 rs fun d=>if d<=n then f d else 0
 |[]=>rfl
 |r::rs=>by
  rw[N3,<-bd4 n f rs]
  by_cases c:r<=n
  · rw[ek9 (by simpa using c),eg6,ew8,if_pos c]
  · rw[el0 (by simpa using c),if_neg c,ej5]
theorem au7 {l:Nat}{rs:List Nat}(h1:∀d∈rs,1<=d):Jn l rs (jf l rs):=by
 refine ⟨rfl,fun n n1=> ?_⟩;obtain ⟨k,rfl⟩:∃k,n=k+1:=⟨n - 1,by omega⟩;show (G8 l rs k++[_]).getD (k+1) 0=_;rw[ec3,ee8 (by rw[Q5];omega),Q5,em4];show au4 l rs (G8 l rs k) (k+1)=_;unfold au4;rw[bd4]
 refine X6 fun d hd=> ?_
 have:=h1 d hd
 by_cases c:d<=k+1
 · rw[if_pos c,if_pos c,br1 l rs k _ (by omega)]
 · rw[if_neg c,if_neg c]
theorem di4 {l:Nat}{rs:List Nat}(h1:∀d∈rs,1<=d){a d left:Nat}(ha:rs[a]? =some d):jf l (rs.take (a+1)) left=E8 (left/d+1) fun k=>E5 d left k*M1 l d^k*jf l (rs.take a) (left - k*d):=by
 have hd:=h1 d (ec8 ha)
 have t1:∀r∈rs.take a,1<=r:=fun r hr=>h1 r (ei5 hr)
 rw[j8 ha]
 have e:=Jn.more hd t1 (au7 (l:=l) t1) (au7 (l:=l) (rs:=rs.take a++[d]) fun r hr=>by
   rcases ed0.mp hr with z|z
   · exact t1 r z
   · rw[ec9.mp z];exact hd) left (left+1) (by omega)
 rw[e]
 refine ct7 (ex3 (Nat.div_le_self _ _)) fun k k1 k2=> ?_
 rw[T0 hd left k (by
   have:left/d < k:=by omega
   exact (Nat.div_lt_iff_lt_mul (by omega)).mp this),eh4,eh4]
theorem dq1 {l n:Nat}(n1:1<=n):jf l [] n=0:=(au7 (l:=l) (rs:=[]) (fun d hd=>by cases hd)).none n1
theorem di5 (l:Nat)(rs:List Nat):jf l rs 0=1:=rfl
structure Nd where
 left:Nat
 a:Nat
 t:Nat
 b:Nat
 q:Nat
structure bz9 (n:Nat)(rs:List Nat)(x:Nd):Prop where
 le:x.left<=n
 al:x.a<=rs.length
 eq:l9 n*x.t=x.q*x.b*l9 x.left
 b1:1<=x.b
 tb:x.t<=1600^(n - x.left)
 bb:x.b<=1600^(n - x.left)
def ndV (x:Nd):List V:=[.int (x.left:Int),.int ((x.a:Int) - 1),.int (x.t:Int),.int (x.b:Int)]
def Y9 (l:Nat)(rs:List Nat)(x:Nd):Nat:=x.q*jf l (rs.take x.a) x.left
def cst (rs:List Nat):Nat->Nat->Nat
 |0,_=>1
 |a+1,left=>1+E8 (left/rs.getD a 1+1) fun k=>cst rs a (left - k*rs.getD a 1)
theorem di6 (rs:List Nat)(a left:Nat):1<=cst rs a left:=by
 cases a with
 |zero=>exact ec0 _
 |succ a=>show 1<=1+_;omega
def V2 (l d:Nat)(x:Nd)(k:Nat):Nd:=⟨x.left - k*d,x.a - 1,x.t*M1 l d^k,x.b*l9 d^k*l9 k,x.q*E5 d x.left k*M1 l d^k⟩
theorem ap7:∀{n:Nat},n<=40->l9 n<=40^n
 |0,_=>ec0 _
 |n+1,h=>by
  show (n+1)*l9 n<=40^n*40;rw[ei2];exact ej6 (ap7 (by omega)) h
theorem ct9 {l d:Nat}(hl:l<=40)(hd:d<=40):M1 l d<=1600^(d - 1):=by
 unfold M1;rw[show 1600=40*40 from rfl,Nat.mul_pow];exact ej6 (ap7 (by omega)) (eo1 hl _)
theorem ca0 {l n d:Nat}{rs:List Nat}{x:Nd}(h:bz9 n rs x)(hl:l<=40)(hn:n<=40)(d1:1<=d)(d2:d<=40){k:Nat}(hk:k*d<=x.left):bz9 n rs (V2 l d x k):=by
 have hle:=h.le;have hal:=h.al;refine ⟨by show x.left - k*d<=n;omega,by show x.a - 1<=rs.length;omega,?_,?_,?_,?_⟩
 · show l9 n*(x.t*M1 l d^k)=x.q*E5 d x.left k*M1 l d^k*(x.b*l9 d^k*l9 k)*l9 (x.left - k*d);rw[<-ej2,h.eq,<-af1 d1 x.left k hk]
   ac_rfl
 · show 1<=x.b*l9 d^k*l9 k;exact ej8 (ej8 h.b1 (Nat.pow_pos (aa4 _))) (aa4 _)
 · show x.t*M1 l d^k<=1600^(n - (x.left - k*d));rw[show n - (x.left - k*d)=(n - x.left)+k*d by omega,ey9];refine ej6 h.tb (ed3 (eo1 (ct9 hl d2) k) ?_);rw[<-ew0,ei2];exact el2 (by decide) (eu9 _ (by omega))
 · show x.b*l9 d^k*l9 k<=1600^(n - (x.left - k*d));rw[show n - (x.left - k*d)=(n - x.left)+k*d by omega,ey9,ej2];refine ej6 h.bb ?_;have kd:k<=k*d:=ef9 _ d1;rw[show 1600=40*40 from rfl,Nat.mul_pow];refine ej6 ?_ (ed3 (ap7 (by omega)) (el2 (by decide) kd));rw[ei2 k d,ew0];exact eo1 (ap7 d2) k
theorem bf9 (f:Nat->Nat):∀n,((ef4 n).map f).sum=E8 n f
 |0=>rfl
 |n+1=>by rw[el8,ec4,en6,bf9 f n];simp [E8]
theorem dq2 (q:Nat)(f:Nat->Nat)(n:Nat):E8 n (fun k=>q*f k)=q*E8 n f:=(au6 q f n).symm
theorem di7 {l:Nat}{rs:List Nat}(h1:∀d∈rs,1<=d){x:Nd}{a d:Nat}(ha:x.a=a+1)(hd:rs[a]? =some d):((ef4 (x.left/d+1)).map fun k=>Y9 l rs (V2 l d x k)).sum=Y9 l rs x:=by
 rw[bf9];unfold Y9;rw[ha,di4 h1 hd,<-dq2]
 refine Q6 fun k _=> ?_
 show x.q*E5 d x.left k*M1 l d^k*jf l (rs.take (x.a - 1)) (x.left - k*d)=_;rw[ha,ev6]
 ac_rfl
theorem di8 {l:Nat}{rs:List Nat}{x:Nd}{a d:Nat}(ha:x.a=a+1)(hd:rs[a]? =some d):((ef4 (x.left/d+1)).map fun k=>cst rs (V2 l d x k).a (V2 l d x k).left).sum+1=cst rs x.a x.left:=by
 rw[bf9,ha]
 show _=1+E8 (x.left/rs.getD a 1+1) fun k=>cst rs a (x.left - k*rs.getD a 1)
 rw[ec3,hd]
 show _=1+E8 (x.left/d+1) fun k=>cst rs a (x.left - k*d)
 rw[ej4]
 congr 1
 refine Q6 fun k _=> ?_
 show cst rs (x.a - 1) (x.left - k*d)=_;rw[ha,ev6]
structure P1 (H:Hp)(pl:Addr)(n:Nat)(rs:List Nat)(ts:List Addr)(nds:List Nd):Prop where
 at_:H pl=some (.lst (ts.map V.ref))
 len:ts.length=nds.length
 tup:∀(i:Nat) t x,ts[i]? =some t->nds[i]? =some x->H t=some (.tup (ndV x))
 ok:∀x∈nds,bz9 n rs x
 lev:∀(i:Nat) x,nds[i]? =some x->x.a+i/42<=rs.length
 ne:∀t∈ts,t≠pl
theorem P1.few {H:Hp}{pl:Addr}{n:Nat}{rs:List Nat}{ts:List Addr}{nds:List Nd}(h:P1 H pl n rs ts nds)(hr:rs.length<=40):nds.length<=1722:=by
 rcases ey2 nds.length 1723 with z|z
 · omega
 · have:=h.lev 1722 _ (eb8 (by omega));omega
theorem P1.keep {H H':Hp}{pl:Addr}{n:Nat}{rs:List Nat}{ts:List Addr}{nds:List Nd}(h:P1 H pl n rs ts nds)(s:e7 H H'):P1 H' pl n rs ts nds:=
 ⟨s _ _ h.at_,h.len,fun i t x a b=>s _ _ (h.tup i t x a b),h.ok,h.lev,h.ne⟩
theorem P1.push {H:Hp}{pl t:Addr}{n:Nat}{rs:List Nat}{ts:List Addr}{nds:List Nd}{x:Nd}(h:P1 H pl n rs ts nds)(ht:H t=some (.tup (ndV x)))(ox:bz9 n rs x)(lx:x.a+nds.length/42<=rs.length)(nt:t≠pl):P1 (c9 H pl (.lst (ts.map V.ref++[.ref t]))) pl n rs (ts++[t]) (nds++[x]):=by
 have cases_:∀{i:Nat} {y:Nd},(nds++[x])[i]? =some y->nds[i]? =some y\/(i=nds.length/\y=x):=fun {i y} e=>by
   rcases ey2 i nds.length with z|z
   · rw[ee4 z] at e;exact .inl e
   · rw[ee8 z] at e;have i2:i - nds.length < 1:=(eb9.mp e).1
     have:i=nds.length:=by omega
     subst this;rw[em4] at e;cases e;exact .inr ⟨rfl,rfl⟩
 refine ⟨by rw[c8,ec4];rfl,by rw[ec6,ec6,h.len];rfl,fun i u y eu ey=> ?_,fun y hy=> ?_,fun i y ey=> ?_,fun u hu=> ?_⟩
 · rcases cases_ ey with e|⟨rfl,rfl⟩
   · have il:i < ts.length:=by rw[h.len];exact (eb9.mp e).1
     rw[ee4 il] at eu;rw[g6 (h.ne u (ec8 eu))];exact h.tup i u y eu e
   · rw[ee8 (by rw[h.len];exact ec0 _),h.len,em4] at eu;cases eu;rw[g6 nt];exact ht
 · rcases ed0.mp hy with z|z
   · exact h.ok y z
   · rw[ec9.mp z];exact ox
 · rcases cases_ ey with e|⟨rfl,rfl⟩
   · exact h.lev i y e
   · exact lx
 · rcases ed0.mp hu with z|z
   · exact h.ne u z
   · rw[ec9.mp z];exact nt
theorem P1.pop {H:Hp}{pl:Addr}{n:Nat}{rs:List Nat}{ts:List Addr}{nds:List Nd}{x:Nd}(h:P1 H pl n rs ts (nds++[x])):∃ts' t,ts=ts'++[t]/\H t=some (.tup (ndV x))/\P1 (c9 H pl (.lst (ts'.map V.ref))) pl n rs ts' nds/\bz9 n rs x/\x.a+nds.length/42<=rs.length:=by
 have l0:ts.length=nds.length+1:=by rw[h.len,ec6];rfl
 obtain ⟨ts',t,rfl⟩:∃ts' t,ts=ts'++[t]:=by
   have ne:ts≠[]:=fun z=>by rw[z] at l0;simp at l0
   exact ⟨ts.dropLast,ts.getLast ne,(eq3 ne).symm⟩
 have l1:ts'.length=nds.length:=by rw[ec6] at l0;simp at l0;exact l0
 have ex:(nds++[x])[nds.length]? =some x:=by rw[ee8 (ec0 _),em4];rfl
 have et:(ts'++[t])[nds.length]? =some t:=by rw[ee8 (by omega),l1,em4];rfl
 refine ⟨ts',t,rfl,h.tup _ t x et ex,⟨c8,l1,fun i u y eu ey=> ?_,fun y hy=>h.ok y (ef7 _ hy),fun i y ey=>h.lev i y ?_,fun u hu=>h.ne u (ef7 _ hu)⟩,h.ok x (ed8 _ (ec9.mpr rfl)),h.lev _ x ex⟩
 · rw[g6 (h.ne u (ef7 _ (ec8 eu)))];refine h.tup i u y ?_ ?_
   · rw[ee4 (eb9.mp eu).1];exact eu
   · rw[ee4 (eb9.mp ey).1];exact ey
 · rw[ee4 (eb9.mp ey).1];exact ey
end
end My
namespace My
open PySem L2 Mth
section
variable {P:Program} {w:World} {K:PySem.W.Frag} {mg:Str->Option Value} {base:Heap} {q_TurnError q_NoTurn q_NoFit q_NoRounds q_NoNumber q_NoRoot q_TooMany q_NoKind q_NoText q_NoName q_NoRow:Addr}
def ay7:Sp:=fun vs H Q _=>∃(l m j:Nat),vs=[.int (l:Int),.int (m:Int),.int (j:Int)]/\l<=40/\j<=40/\∀(a:Addr) (H':Hp),H a=none->e7 H H'->H' a=some (.lst ((G3 (y8 l m j)).map V.int))->Q (.ref a) H'
theorem P9:m8 ["l","m","most","found","d","one","other"] ["l","m","most"] (j6 aj3):=⟨rfl,rfl,rfl,by decide+kernel,rfl,by decide+kernel,by decide+kernel⟩
theorem bt1 {f:Addr}{fd:FuncData}(F:E7 K "_law_rights" "_law_rights" aj3 f fd)(B:Bl mg):o8 P w K mg base G2 1 f fd ["l","m","most"] ay7:=by
 refine F.ok P9 (fun vs H Q E h=> ?_) (fun cdv A outer s H vs Q E hr h=> ?_)
 · obtain ⟨l,m,j,rfl,hl,hj,q⟩:=h;rfl
 · obtain ⟨l,m,j,rfl,hl,hj,q⟩:=h;refine ⟨_,@c7 _ _ _ _ _ (@i6 _ _ (3) _ _ _ _ P9.nd rfl (Or.inl rfl) (@o6 _ _ _ _ (@c6 _)) (by rfl) (by trivial)) (@c7 _ _ _ _ _ (@o9 _ _ _ _ _ _ _ _ PassesOwn.never rfl (@O1 _ _ _ _ _ _ _ (by rfl) B.range (@c5 _ _ _ _ _ (@g8 _ _ _ _) (@c5 _ _ _ _ _ (@i7 _ _ _ _ _ _ _ _ E3 (pv 2) (@g8 _ _ _ _)) (@c6 _) (by rfl)) (by rfl)) (by rfl) (by rfl)) (@i8 _ _ (4) _ P9.nd rfl (Or.inl rfl) (by trivial)) (@c7 _ _ _ _ _ (@i6 _ _ (5) _ _ _ _ P9.nd rfl (Or.inl rfl) (@i7 _ _ _ _ _ _ _ _ Q1 (pv 4) (pv 0)) (by rfl) (by trivial)) (@c7 _ _ _ _ _ (@i6 _ _ (6) _ _ _ _ P9.nd rfl (Or.inl rfl) (pv 1) (by rfl) (by trivial)) (@c7 _ _ _ _ _ (@ac5 _ _ _ _ _ _ PassesOwn.never (@m7 _ _ _ _ _ _ _ _ ba4 (pv 6) (@g8 _ _ _ _) (n0 _)) (@e8 _ _ _ (@dk8 _ _ (5) (6) _ _ _ _ _ _ _ _ _ _ _ rfl P9.nd rfl rfl (by decide) rfl rfl (@c5 _ _ _ _ _ (pv 6) (@c5 _ _ _ _ _ (@i7 _ _ _ _ _ _ _ _ E4 (pv 5) (pv 6)) (@c6 _) (by rfl)) (by rfl)) (by rfl) (by rfl)))) (@e8 _ _ _ (@B5 _ _ _ _ _ _ _ _ (@m7 _ _ _ _ _ _ _ _ V1 (pv 5) (pv 4) (n0 _)) (@e8 _ _ _ (@C3 _ _ _ _ (@C7 _ _ _ _ _ _ _ (pv 3) (@c5 _ _ _ _ _ (pv 4) (@c6 _) (by rfl)) (by rfl) (by rfl) (by rfl) (by rfl) (by rfl)) (by rfl))) (@r6 _)))))) (by intro _;rfl)) (@e8 _ _ _ (@j9 _ _ _ _ (pv 3)))),?_⟩
   try dsimp only[y7,Cx.nox,Cx.wish]
   refine ⟨ed7 _,fun fa nfa=> ?_⟩;refine ⟨_,rfl,_,_,rfl,rfl,1,(j:Int)+1,rfl,⟨by decide,by decide,by omega,by omega⟩,?_⟩;rw[show ((j:Int)+1 - 1).toNat=j by omega]
   refine C6 (lo:=1) (n:=j) (fun i σ H2=>∃v4 v5 v6:Option V,σ=[some (.int (l:Int)),some (.int (m:Int)),some (.int (j:Int)),some (.ref fa),v4,v5,v6]/\H2 fa=some (.lst ((G3 (y8 l m i)).map V.int))/\e7 H H2)
     ⟨none,none,none,rfl,c8,e7.upd_new nfa⟩ ?_ ?_
   · rintro i σ H2 hi ⟨v4,v5,v6,rfl,h2,s2⟩
     have e1:(1:Int)+(i:Int)=((i+1:Nat):Int):=by omega
     refine ⟨_,rfl,_,rfl,_,_,rfl,rfl,.inr ⟨by omega,by omega⟩,_,rfl,?_⟩;refine ⟨fun mm σ H3=>∃x y:Nat,σ=[some (.int (l:Int)),some (.int (m:Int)),some (.int (j:Int)),some (.ref fa),some (.int ((i+1:Nat):Int)),some (.int (x:Int)),some (.int (y:Int))]/\ef6 x y=ef6 ((i+1)*l) m/\H3=H2/\y=mm,⟨m,(i+1)*l,m,?_,rfl,rfl,rfl⟩,?_⟩
     · rw[e1,eg2];rfl
     rintro mm σ H3 ⟨x,y,rfl,eg,rfl,rfl⟩;refine ⟨_,rfl,_,_,rfl,rfl,_,rfl,?_⟩
     by_cases c:y=0
     · subst c;rw[decide_eq_false (by omega)];rw[Nat.gcd_zero_right] at eg;refine ⟨_,rfl,_,rfl,rfl,_,rfl,?_⟩;rw[eg];have li:=Y6 l m i
       by_cases ce:ef6 ((i+1)*l) m=i+1
       · rw[decide_eq_true (congrArg V.int (by rw[ce]))];refine O8 ⟨_,rfl,.inl ⟨rfl,_,g9.of h2⟩,_,rfl,fa,_,_,rfl,rfl,h2,t5 (by unfold G3;rw[eb7,eb7];omega),?_⟩;refine ⟨_,_,_,rfl,?_,s2.upd_r nfa⟩;rw[c8,aj6,if_pos ce];unfold G3;rw[ec4,ec4];rfl
       · rw[decide_eq_false fun z=>ce (by have:=V.int.inj z;omega)];refine B6 ⟨_,_,_,rfl,?_,s2⟩;rw[aj6,if_neg ce];exact h2
     · rw[decide_eq_true (by omega)];refine ⟨fun σ' H'=>∃m',m' < y/\_,fun _ _ h=>h,?_⟩;refine ⟨_,rfl,_,rfl,_,rfl,_,_,rfl,rfl,(show (0:Int) < (y:Int) by omega),_,_,rfl,?_⟩;refine ⟨x%y,ei3 _ (by omega),y,x%y,?_,?_,rfl,rfl⟩
       · rw[em1];rfl
       · rw[<-eg,ey3 x y,Nat.gcd_rec y x,ey3]
   · rintro σ H2 ⟨v4,v5,v6,rfl,h2,s2⟩;exact ⟨_,rfl,q fa H2 nfa s2 h2⟩
theorem P2 {x:Nat}(h:x < 2^1000):((x:Int)).natAbs < 2^20000:=by
 rw[el1];exact ef5 h (el2 (by decide) (by decide))
theorem cu0 {x:Nat}(h:x < 2^1000):((x:Int)).natAbs < 2^9000:=by
 rw[el1];exact ef5 h (el2 (by decide) (by decide))
theorem du6:∀k,k < 41->1600^k < 2^440:=by decide+kernel
theorem p40:∀k,k < 41->40^k < 2^220:=by decide+kernel
theorem du7 {x:Nat}(h:x < 2^440):x < 2^1000:=ef5 h (el2 (by decide) (by decide))
theorem dd1 {x:Nat}(h:x < 2^220):x < 2^1000:=ef5 h (el2 (by decide) (by decide))
theorem ap8 {n:Nat}(h:n<=40):l9 n < 2^1000:=dd1 (ee5 (ap7 h) (p40 n (by omega)))
theorem ae0 {x k:Nat}(h:x<=1600^k)(hk:k<=40):x < 2^1000:=du7 (ee5 h (du6 k (by omega)))
theorem cu1 {x y:Nat}(hx:x < 2^1000)(hy:y < 2^1000):((x:Int)*(y:Int)).natAbs < 2^20000:=by
 rw[<-eg2,el1];refine ef5 (Nat.mul_lt_mul'' hx hy) ?_;rw[<-ey9];exact el2 (by decide) (by decide)
theorem ak0 {x:Nat}(h:x<=1600):x < 2^1000:=ae0 (k:=1) h (by decide)
theorem du8 {l i:Nat}(hl:l<=40)(hi:i<=40):l9 i*l^i<=1600^i:=by
 rw[show 1600=40*40 from rfl,Nat.mul_pow];exact ej6 (ap7 hi) (eo1 hl _)
theorem dz6 {l d:Nat}{x:Nd}(h:1<=x.a):ndV (V2 l d x 0)=[.int (x.left:Int),.int ((x.a:Int) - 1 - 1),.int (x.t:Int),.int (x.b:Int)]:=by
 show [V.int ((x.left - 0*d:Nat):Int),V.int (((x.a - 1:Nat):Int) - 1),V.int ((x.t*M1 l d^0:Nat):Int),V.int ((x.b*l9 d^0*l9 0:Nat):Int)]=_;rw[eh4,Nat.sub_zero,et0,et0,ek7,ek7,show l9 0=1 from rfl,ek7,ey8 h];rfl
theorem dq3 {l d k:Nat}{x:Nd}(h:1<=x.a)(hk:(k+1)*d<=x.left):ndV (V2 l d x (k+1))=[.int ((x.left:Int) - (1+(k:Int))*(d:Int)),.int ((x.a:Int) - 1 - 1),.int (((V2 l d x k).t:Int)*(M1 l d:Int)),.int (((V2 l d x k).b:Int)*(l9 d:Int)*(1+(k:Int)))]:=by
 show [V.int ((x.left - (k+1)*d:Nat):Int),V.int (((x.a - 1:Nat):Int) - 1),V.int ((x.t*M1 l d^(k+1):Nat):Int),V.int ((x.b*l9 d^(k+1)*((k+1)*l9 k):Nat):Int)]=[_,_,V.int (((x.t*M1 l d^k:Nat):Int)*(M1 l d:Int)),V.int (((x.b*l9 d^k*l9 k:Nat):Int)*(l9 d:Int)*(1+(k:Int)))]
 have e1:(1+(k:Int))=((k+1:Nat):Int):=by omega
 rw[e1,ey8 hk,ey8 h,en9,en9,<-eg2,<-eg2,<-eg2,<-eg2];rw[show x.t*(M1 l d^k*M1 l d)=x.t*M1 l d^k*M1 l d by ac_rfl,show x.b*(l9 d^k*l9 d)*((k+1)*l9 k)=x.b*l9 d^k*l9 k*l9 d*(k+1) by ac_rfl];rfl
def bn3:Sp:=fun vs H Q _=>∃(l n:Nat) (ra:Addr) (rs:List Nat),vs=[.int (l:Int),.int (n:Int),.ref ra]/\H ra=some (.lst ((G3 rs).map V.int))/\l<=40/\n<=40/\rs.length<=40/\(∀d∈rs,1<=d/\d<=40)/\∀H',e7 H H'->Q (.int ((jf l rs n:Nat):Int)) H'
theorem x9:m8 ["l","many","rights","top","k","total","pile","left","at","times","below","d","one","over","taken"] ["l","many","rights"] (j6 am8):=⟨rfl,rfl,rfl,by decide+kernel,rfl,by decide+kernel,by decide+kernel⟩
theorem ca1 {f:Addr}{fd:FuncData}(F:E7 K "_law_woven" "_law_woven" am8 f fd)(B:Bl mg):o8 P w K mg base G2 1 f fd ["l","many","rights"] bn3:=by
 refine F.ok x9 (fun vs H Q E h=> ?_) (fun cdv A outer s H vs Q E hr h=> ?_)
 · obtain ⟨l,n,ra,rs,rfl,hra,hl,hn,lr,dr,q⟩:=h;rfl
 · obtain ⟨l,n,ra,rs,rfl,hra,hl,hn,lr,dr,q⟩:=h;have hu:=Q3 hr;refine ⟨_,@c7 _ _ _ _ _ (@i6 _ _ (3) _ _ _ _ x9.nd rfl (Or.inl rfl) (@g8 _ _ _ _) (by rfl) (by trivial)) (@c7 _ _ _ _ _ (@o9 _ _ _ _ _ _ _ _ PassesOwn.never rfl (@O1 _ _ _ _ _ _ _ (by rfl) B.range (@c5 _ _ _ _ _ (@g8 _ _ _ _) (@c5 _ _ _ _ _ (@i7 _ _ _ _ _ _ _ _ E3 (pv 1) (@g8 _ _ _ _)) (@c6 _) (by rfl)) (by rfl)) (by rfl) (by rfl)) (@i8 _ _ (4) _ x9.nd rfl (Or.inl rfl) (by trivial)) (@e8 _ _ _ (@i6 _ _ (3) _ _ _ _ x9.nd rfl (Or.inl rfl) (@i7 _ _ _ _ _ _ _ _ P7 (pv 3) (pv 4)) (by rfl) (by trivial))) (by intro _;rfl)) (@c7 _ _ _ _ _ (@i6 _ _ (5) _ _ _ _ x9.nd rfl (Or.inl rfl) (@g8 _ _ _ _) (by rfl) (by trivial)) (@c7 _ _ _ _ _ (@i6 _ _ (6) _ _ _ _ x9.nd rfl (Or.inl rfl) (@o6 _ _ _ _ (@c5 _ _ _ _ _ (@ah8 _ _ _ _ _ (@c5 _ _ _ _ _ (pv 1) (@c5 _ _ _ _ _ (@i7 _ _ _ _ _ _ _ _ V5 (@A0 _ _ _ _ _ B.len (@c5 _ _ _ _ _ (pv 2) (@c6 _) (by rfl)) (by rfl) (by rfl)) (@g8 _ _ _ _)) (@c5 _ _ _ _ _ (@g8 _ _ _ _) (@c5 _ _ _ _ _ (@g8 _ _ _ _) (@c6 _) (by rfl)) (by rfl)) (by rfl)) (by rfl))) (@c6 _) (by rfl))) (by rfl) (by trivial)) (@c7 _ _ _ _ _ (@ac5 _ _ _ _ _ _ PassesOwn.never (@m7 _ _ _ _ _ _ _ _ (ae7 0 hu) (pv 6) (@o6 _ _ _ _ (@c6 _)) (n0 _)) (@c7 _ _ _ _ _ (@ah6 _ _ _ _ _ _ (@ct5 _ _ _ _ _ (pv 6) (by rfl) (by rfl)) (@Y2 _ _ _ _ _ _ rfl (@C5 _ _ _ _ _ (@i8 _ _ (7) _ x9.nd rfl (Or.inl rfl) (by trivial)) (@C5 _ _ _ _ _ (@i8 _ _ (8) _ x9.nd rfl (Or.inl rfl) (by trivial)) (@C5 _ _ _ _ _ (@i8 _ _ (9) _ x9.nd rfl (Or.inl rfl) (by trivial)) (@C5 _ _ _ _ _ (@i8 _ _ (10) _ x9.nd rfl (Or.inl rfl) (by trivial)) (@U5 _) (by rfl)) (by rfl)) (by rfl)) (by rfl)) (by rfl) (by rfl)) (by rfl) (by rfl) (by rfl)) (@e8 _ _ _ (@B5 _ _ _ _ _ _ _ _ (@m7 _ _ _ _ _ _ _ _ V1 (pv 7) (@g8 _ _ _ _) (n0 _)) (@e8 _ _ _ (@i6 _ _ (5) _ _ _ _ x9.nd rfl (Or.inl rfl) (@i7 _ _ _ _ _ _ _ _ E3 (pv 5) (@i7 _ _ _ _ _ _ _ _ by1 (@i7 _ _ _ _ _ _ _ _ P7 (pv 3) (pv 9)) (pv 10))) (by rfl) (by trivial))) (@e8 _ _ _ (@B5 _ _ _ _ _ _ _ _ (@m7 _ _ _ _ _ _ _ _ ci9 (pv 8) (@g8 _ _ _ _) (n0 _)) (@c7 _ _ _ _ _ (@C3 _ _ _ _ (@C7 _ _ _ _ _ _ _ (pv 6) (@c5 _ _ _ _ _ (@ah8 _ _ _ _ _ (@c5 _ _ _ _ _ (pv 7) (@c5 _ _ _ _ _ (@i7 _ _ _ _ _ _ _ _ V5 (pv 8) (@g8 _ _ _ _)) (@c5 _ _ _ _ _ (pv 9) (@c5 _ _ _ _ _ (pv 10) (@c6 _) (by rfl)) (by rfl)) (by rfl)) (by rfl))) (@c6 _) (by rfl)) (by rfl) (by rfl) (by rfl) (by rfl) (by rfl)) (by rfl)) (@c7 _ _ _ _ _ (@i6 _ _ (11) _ _ _ _ x9.nd rfl (Or.inl rfl) (@J2 _ _ _ _ _ _ _ B9 (pv 2) (pv 8) (fun _ _=>rfl)) (by rfl) (by trivial)) (@c7 _ _ _ _ _ (@i6 _ _ (12) _ _ _ _ x9.nd rfl (Or.inl rfl) (@g8 _ _ _ _) (by rfl) (by trivial)) (@c7 _ _ _ _ _ (@i6 _ _ (13) _ _ _ _ x9.nd rfl (Or.inl rfl) (@g8 _ _ _ _) (by rfl) (by trivial)) (@c7 _ _ _ _ _ (@o9 _ _ _ _ _ _ _ _ PassesOwn.never rfl (@O1 _ _ _ _ _ _ _ (by rfl) B.range (@c5 _ _ _ _ _ (@g8 _ _ _ _) (@c5 _ _ _ _ _ (pv 11) (@c6 _) (by rfl)) (by rfl)) (by rfl) (by rfl)) (@i8 _ _ (4) _ x9.nd rfl (Or.inl rfl) (by trivial)) (@c7 _ _ _ _ _ (@i6 _ _ (12) _ _ _ _ x9.nd rfl (Or.inl rfl) (@i7 _ _ _ _ _ _ _ _ P7 (@i7 _ _ _ _ _ _ _ _ P7 (pv 12) (pv 4)) (pv 0)) (by rfl) (by trivial)) (@e8 _ _ _ (@i6 _ _ (13) _ _ _ _ x9.nd rfl (Or.inl rfl) (@i7 _ _ _ _ _ _ _ _ P7 (pv 13) (@i7 _ _ _ _ _ _ _ _ E3 (pv 4) (@g8 _ _ _ _))) (by rfl) (by trivial)))) (by intro _;rfl)) (@e8 _ _ _ (@o9 _ _ _ _ _ _ _ _ PassesOwn.never rfl (@O1 _ _ _ _ _ _ _ (by rfl) B.range (@c5 _ _ _ _ _ (@g8 _ _ _ _) (@c5 _ _ _ _ _ (@i7 _ _ _ _ _ _ _ _ E3 (@i7 _ _ _ _ _ _ _ _ by1 (pv 7) (pv 11)) (@g8 _ _ _ _)) (@c6 _) (by rfl)) (by rfl)) (by rfl) (by rfl)) (@i8 _ _ (14) _ x9.nd rfl (Or.inl rfl) (by trivial)) (@c7 _ _ _ _ _ (@i6 _ _ (9) _ _ _ _ x9.nd rfl (Or.inl rfl) (@i7 _ _ _ _ _ _ _ _ P7 (pv 9) (pv 12)) (by rfl) (by trivial)) (@c7 _ _ _ _ _ (@i6 _ _ (10) _ _ _ _ x9.nd rfl (Or.inl rfl) (@i7 _ _ _ _ _ _ _ _ P7 (@i7 _ _ _ _ _ _ _ _ P7 (pv 10) (pv 13)) (pv 14)) (by rfl) (by trivial)) (@e8 _ _ _ (@C3 _ _ _ _ (@C7 _ _ _ _ _ _ _ (pv 6) (@c5 _ _ _ _ _ (@ah8 _ _ _ _ _ (@c5 _ _ _ _ _ (@i7 _ _ _ _ _ _ _ _ V5 (pv 7) (@i7 _ _ _ _ _ _ _ _ P7 (pv 14) (pv 11))) (@c5 _ _ _ _ _ (@i7 _ _ _ _ _ _ _ _ V5 (pv 8) (@g8 _ _ _ _)) (@c5 _ _ _ _ _ (pv 9) (@c5 _ _ _ _ _ (pv 10) (@c6 _) (by rfl)) (by rfl)) (by rfl)) (by rfl))) (@c6 _) (by rfl)) (by rfl) (by rfl) (by rfl) (by rfl) (by rfl)) (by rfl))))) (by intro _;rfl)))))))) (@r6 _))))))) (@e8 _ _ _ (@j9 _ _ _ _ (pv 5))))))),?_⟩
   refine dc9 ?_;intros
   try dsimp only[y7,Cx.nox,Cx.wish]
   refine ⟨_,rfl,_,_,rfl,rfl,1,(n:Int)+1,rfl,⟨by decide,by decide,by omega,by omega⟩,?_⟩;rw[show ((n:Int)+1 - 1).toNat=n by omega]
   refine C6 (lo:=1) (n:=n) (fun i σ H2=>∃v4:Option V,σ=[some (.int (l:Int)),some (.int (n:Int)),some (.ref ra),some (.int ((l9 i:Nat):Int)),v4,none,none,none,none,none,none,none,none,none,none]/\H2=H)
     ⟨none,rfl,rfl⟩ ?_ ?_
   · rintro i σ H2 hi ⟨v4,rfl,rfl⟩;refine ⟨_,rfl,_,rfl,_,_,rfl,rfl,⟨P2 (ap8 (by omega)),?_⟩,some (.int (1+(i:Int))),?_,rfl⟩
     · rw[show (1:Int)+(i:Int)=((i+1:Nat):Int) by omega];exact P2 (dd1 (ee5 (show i+1<=40^1 by omega) (p40 1 (by decide))))
     · have e:((l9 (i+1):Nat):Int)=((l9 i:Nat):Int)*(1+(i:Int)):=by
         show (((i+1)*l9 i:Nat):Int)=_;rw[eg2,Int.mul_comm]
         congr 1
         omega
       rw[e];rfl
   rintro σ H2 ⟨v4,rfl,rfl⟩;refine ⟨_,rfl,_,rfl,ra,_,rfl,.inl (g9.of hra),_,_,rfl,rfl,(show 4<=sizeLine by decide),fun t0 nt0=> ?_⟩;refine ⟨(show 1<=sizeLine by decide),fun pl npl=> ?_⟩
   have ll:((G3 rs).map V.int).length=rs.length:=by unfold G3;rw[eb7,eb7]
   have npt:pl≠t0:=fun z=>by rw[z,c8] at npl;cases npl
   have npl2:H2 pl=none:=by rw[g6 npt] at npl;exact npl
   have s1:e7 H2 (c9 (c9 H2 t0 (.tup (ndV ⟨n,rs.length,1,1,1⟩))) pl (.lst [.ref t0])):=(e7.upd_new nt0).upd_r npl2
   have h1:P1 (c9 (c9 H2 t0 (.tup (ndV ⟨n,rs.length,1,1,1⟩))) pl (.lst [.ref t0])) pl n rs [t0] [⟨n,rs.length,1,1,1⟩]:=by
     have z:P1 (c9 (c9 H2 t0 (.tup (ndV ⟨n,rs.length,1,1,1⟩))) pl (.lst [])) pl n rs [] []:=⟨c8,rfl,fun i t x e=>(by cases e),fun x hx=>(by cases hx),fun i x e=>(by cases e),fun t ht=>(by cases ht)⟩;have z2:=z.push (t:=t0) (x:=⟨n,rs.length,1,1,1⟩) (by rw[g6 npt.symm];exact c8) ⟨ec0 _,ec0 _,rfl.trans (ei2 _ _),ec0 _,by rw[em4];exact ec0 _,by rw[em4];exact ec0 _⟩ (by show rs.length+0/42<=_;omega) npt.symm;rw[dd3] at z2;exact z2
   refine ⟨fun mm σ H3=>∃(tot:Nat) (ts:List Addr) (nds:List Nd) (v4 v7 v8 v9 v10 v11 v12 v13 v14:Option V),σ=[some (.int (l:Int)),some (.int (n:Int)),some (.ref ra),some (.int ((l9 n:Nat):Int)),v4,some (.int (tot:Int)),some (.ref pl),v7,v8,v9,v10,v11,v12,v13,v14]/\P1 H3 pl n rs ts nds/\e7 H2 H3/\tot+(nds.map (Y9 l rs)).sum=jf l rs n/\mm=(nds.map fun x=>cst rs x.a x.left).sum,⟨_,0,[t0],[⟨n,rs.length,1,1,1⟩],v4,none,none,none,none,none,none,none,none,rfl,?_,?_,?_,rfl⟩,?_⟩
   · rw[ll];exact h1
   · rw[ll];exact s1
   · show 0+(1*jf l (rs.take rs.length) n+0)=_;rw[ef3];omega
   rintro mm σ H3 ⟨tot,ts,nds,v4,v7,v8,v9,v10,v11,v12,v13,v14,rfl,hp,s3,et,rfl⟩;refine ⟨_,rfl,(show 0<=sizeLine by decide),fun ne nne=> ?_⟩;have hp4:=hp.keep (e7.upd_new (o:= .lst []) nne);have s4:e7 H2 (c9 H3 ne (.lst [])):=s3.trans (e7.upd_new nne);have hn4:(c9 H3 ne (.lst [])) ne=some (.lst []):=c8;refine ⟨pl,ne,_,[],_,rfl,rfl,g9.of hp4.at_,g9.of hn4,bl3 _ _ _ _,_,rfl,?_⟩;clear hn4;generalize c9 H3 ne (.lst [])=H4 at hp4 s4 ⊢;clear hp nne s3
   rcases List.eq_nil_or_concat nds with c|⟨nds',x,c⟩
   · subst c;have:ts=[]:=ej9.mp hp4.len;subst this;refine ⟨_,rfl,?_⟩;have:tot=jf l rs n:=et;rw[this];exact q _ s4
   rw[List.concat_eq_append] at c;subst c;obtain ⟨ts',t,rfl,ht,hp5,okx,lvx⟩:=hp4.pop
   have e1:(!((ts'++[t]).map V.ref).isEmpty)=true:=by cases ts'<;>rfl
   rw[if_pos rfl,e1,if_pos rfl];refine ⟨fun σ' H'=>∃m',m' < _/\_,fun _ _ h=>h,?_⟩;have ets:(ts'++[t]).map V.ref=ts'.map V.ref++[.ref t]:=ec4
   have h4p:H4 pl=some (.lst (ts'.map V.ref++[.ref t])):=by rw[hp4.at_,ets]
   have ntp:t≠pl:=hp4.ne t (ed8 _ (ec9.mpr rfl))
   have et5:(c9 H4 pl (.lst (ts'.map V.ref))) t=some (.tup (ndV x)):=by rw[g6 ntp];exact ht
   have s5:e7 H2 (c9 H4 pl (.lst (ts'.map V.ref))):=s4.upd_r npl2;refine ⟨_,rfl,.inl ⟨rfl,_,g9.of h4p⟩,pl,_,_,rfl,rfl,h4p,show _=some (V.ref t) from ?_,?_⟩
   · rw[ec6,ee8 (by simp)];simp
   rw[List.dropLast_concat];refine ⟨t,_,rfl,Q0.of et5,rfl,_,_,rfl,_,_,rfl,_,_,rfl,_,_,rfl,rfl,?_⟩;clear h4p ets ht hp4 s4 et5;generalize c9 H4 pl (.lst (ts'.map V.ref))=H5 at hp5 s5 ⊢;refine ⟨_,rfl,rfl,_,rfl,?_⟩;have fb:=ap8 hn;have tb:=ae0 okx.tb (by omega);have bb:=ae0 okx.bb (by omega);rw[ec4,en6] at et;have et:tot+((nds'.map (Y9 l rs)).sum+(Y9 l rs x+0))=jf l rs n:=et
   have ec:((nds'++[x]).map fun x=>cst rs x.a x.left).sum=(nds'.map fun x=>cst rs x.a x.left).sum+cst rs x.a x.left:=by rw[ec4,en6];rfl
   have cp:=di6 rs x.a x.left
   by_cases c0:x.left=0
   · rw[decide_eq_true (by rw[c0];rfl)];refine O8 ⟨_,rfl,_,rfl,_,rfl,_,_,rfl,rfl,⟨P2 fb,P2 tb⟩,_,rfl,_,_,rfl,rfl,⟨by have:=okx.b1;omega,cu0 bb⟩,_,_,rfl,rfl,?_⟩
     have ev:(tot:Int)+((l9 n:Nat):Int)*(x.t:Int)/(x.b:Int)=((tot+x.q:Nat):Int):=by
       have eq:=okx.eq;rw[c0,show l9 0=1 from rfl,ek7] at eq;rw[<-eg2,eq,<-ex7,Nat.mul_div_cancel _ okx.b1];rfl
     have vx:Y9 l rs x=x.q:=by unfold Y9;rw[c0,di5,ek7]
     refine ⟨(nds'.map fun x=>cst rs x.a x.left).sum,by rw[ec];omega,tot+x.q,ts',nds',v4,some (.int (x.left:Int)),some (.int ((x.a:Int) - 1)),some (.int (x.t:Int)),some (.int (x.b:Int)),v11,v12,v13,v14,?_,hp5,s5,by rw[<-et,vx];omega,rfl⟩;rw[<-ev];rfl
   · rw[decide_eq_false (fun z=>c0 (by have:=V.int.inj z;omega))];refine B6 ⟨_,rfl,_,_,rfl,rfl,_,rfl,?_⟩
     by_cases ca:x.a=0
     · rw[decide_eq_false (by omega)]
       have vx:Y9 l rs x=0:=by unfold Y9;rw[ca];show x.q*jf l [] x.left=0;rw[dq1 (by omega)];rfl
       refine B6 ⟨(nds'.map fun x=>cst rs x.a x.left).sum,by rw[ec];omega,tot,ts',nds',v4,_,_,_,_,v11,v12,v13,v14,rfl,hp5,s5,by rw[<-et,vx];omega,rfl⟩
     rw[decide_eq_true (by omega)];obtain ⟨a,ea⟩:∃a,x.a=a+1:=⟨x.a - 1,by omega⟩
     have al:a < rs.length:=by have:=okx.al;omega
     obtain ⟨d,hd⟩:∃d,rs[a]? =some d:=⟨_,eb8 al⟩;obtain ⟨d1,d2⟩:=dr d (ec8 hd);refine O8 ⟨_,rfl,.inl ⟨rfl,_,g9.of hp5.at_⟩,_,rfl,_,rfl,_,_,rfl,rfl,_,rfl,_,rfl,(show 4<=sizeLine by decide),fun t1 nt1=> ?_⟩;have hp5':=hp5.keep (e7.upd_new (o:= .tup [.int (x.left:Int),.int ((x.a:Int) - 1 - 1),.int (x.t:Int),.int (x.b:Int)]) nt1);have few:=hp5.few lr
     have n1p:t1≠pl:=fun z=>by rw[z,hp5.at_] at nt1;cases nt1
     have hp6:=hp5'.push (t:=t1) (x:=V2 l d x 0) (by rw[c8,dz6 (by omega)]) (ca0 okx hl hn d1 d2 (by omega)) (by show x.a - 1+_<=_;omega) n1p;have s6:=(s5.trans (e7.upd_new (o:= .tup [.int (x.left:Int),.int ((x.a:Int) - 1 - 1),.int (x.t:Int),.int (x.b:Int)]) nt1)).upd_r (o:= .lst (ts'.map V.ref++[.ref t1])) npl2;refine ⟨pl,_,_,rfl,rfl,hp5'.at_,ee5 (show _<=2000 by rw[eb7,hp5.len];omega) (by decide),?_⟩;generalize c9 (c9 H5 t1 (.tup [.int (x.left:Int),.int ((x.a:Int) - 1 - 1),.int (x.t:Int),.int (x.b:Int)])) pl (.lst (ts'.map V.ref++[.ref t1]))=H6 at hp6 s6 ⊢
     have hdv:((G3 rs).map V.int)[a]? =some (.int (d:Int)):=by unfold G3;rw[ec1,ec1,hd];rfl
     refine ⟨_,rfl,_,rfl,ra,_,_,_,rfl,rfl,g9.of (s6 _ _ hra),(show V7 _ ((x.a:Int) - 1)=some (V.int (d:Int)) from ?_),?_⟩
     · rw[show ((x.a:Int) - 1)=((a:Nat):Int) by omega,C4];exact hdv
     refine ⟨_,rfl,1,(d:Int),rfl,⟨by decide,by decide,by omega,by omega⟩,?_⟩;rw[show ((d:Int) - 1).toNat=d - 1 by omega]
     refine C6 (lo:=1) (n:=d - 1) (fun i σ H7=>∃v4:Option V,σ=[some (.int (l:Int)),some (.int (n:Int)),some (.ref ra),some (.int ((l9 n:Nat):Int)),v4,some (.int (tot:Int)),some (.ref pl),some (.int (x.left:Int)),some (.int ((x.a:Int) - 1)),some (.int (x.t:Int)),some (.int (x.b:Int)),some (.int (d:Int)),some (.int ((l9 i*l^i:Nat):Int)),some (.int ((l9 (i+1):Nat):Int)),v14]/\H7=H6)
       ⟨v4,rfl,rfl⟩ ?_ ?_
     · rintro i σ H7 hi ⟨w4,rfl,rfl⟩;have b1:l9 i*l^i < 2^1000:=ae0 (du8 hl (by omega)) (by omega)
       have e1:(1+(i:Int))=((i+1:Nat):Int):=by omega
       have b0:(1+(i:Int)).natAbs < 2^20000:=by rw[e1];exact P2 (ak0 (by omega))
       have bl:((l:Nat):Int).natAbs < 2^20000:=P2 (ak0 (by omega))
       have b2:(((l9 i*l^i:Nat):Int)*(1+(i:Int))).natAbs < 2^20000:=by rw[e1];exact cu1 b1 (ak0 (by omega))
       have b3:(1+(i:Int)+1).natAbs < 2^20000:=by rw[e1];exact P2 (x:=i+1+1) (ak0 (by omega))
       refine ⟨_,rfl,_,rfl,_,_,rfl,rfl,⟨P2 b1,b0⟩,_,rfl,_,_,rfl,rfl,⟨b2,bl⟩,_,rfl,_,rfl,_,_,rfl,rfl,_,_,rfl,rfl,⟨P2 (ap8 (by omega)),b3⟩,some (.int (1+(i:Int))),?_,rfl⟩
       have g1:((l9 (i+1)*l^(i+1):Nat):Int)=((l9 i*l^i:Nat):Int)*(1+(i:Int))*(l:Int):=by
         rw[e1,<-eg2,<-eg2]
         congr 1
         show (i+1)*l9 i*(l^i*l)=_
         ac_rfl
       have g2:((l9 (i+1+1):Nat):Int)=((l9 (i+1):Nat):Int)*(1+(i:Int)+1):=by
         rw[e1,show (((i+1:Nat):Int)+1)=((i+1+1:Nat):Int) by omega,<-eg2]
         congr 1
         show (i+1+1)*l9 (i+1)=_
         ac_rfl
       rw[g1,g2];rfl
     rintro σ H7 ⟨w4,rfl,rfl⟩;have dl:x.left/d<=40:=ed3 (Nat.div_le_self _ _) (by have:=okx.le;omega);have bd:((d:Nat):Int).natAbs < 2^20000:=P2 (ak0 (by omega));have one_big:M1 l d < 2^1000:=ae0 (ct9 hl d2) (by omega);have ed:((x.left:Int)/(d:Int))=((x.left/d:Nat):Int):=(ex7 _ _).symm;refine ⟨_,rfl,_,rfl,_,_,rfl,rfl,⟨by omega,cu0 (ak0 (by omega))⟩,_,_,rfl,rfl,1,(x.left:Int)/(d:Int)+1,rfl,⟨by decide,by decide,by rw[ed];generalize x.left/d=kk at dl ⊢;omega,by rw[ed];generalize x.left/d=kk at dl ⊢;omega⟩,?_⟩;rw[show ((x.left:Int)/(d:Int)+1 - 1).toNat=x.left/d by rw[ed];generalize x.left/d=kk at dl ⊢;omega]
     refine C6 (lo:=1) (n:=x.left/d) (fun i σ H8=>∃(ts2:List Addr) (v14:Option V),σ=[some (.int (l:Int)),some (.int (n:Int)),some (.ref ra),some (.int ((l9 n:Nat):Int)),w4,some (.int (tot:Int)),some (.ref pl),some (.int (x.left:Int)),some (.int ((x.a:Int) - 1)),some (.int ((V2 l d x i).t:Int)),some (.int ((V2 l d x i).b:Int)),some (.int (d:Int)),some (.int ((M1 l d:Nat):Int)),some (.int ((l9 d:Nat):Int)),v14]/\P1 H8 pl n rs ts2 (nds'++(ef4 (i+1)).map (V2 l d x))/\e7 H2 H8)
       ⟨ts'++[t1],v14,?_,hp6,s6⟩ ?_ ?_
     · have g1:(V2 l d x 0).t=x.t:=by show x.t*M1 l d^0=_;rw[et0,ek7]
       have g2:(V2 l d x 0).b=x.b:=by show x.b*l9 d^0*l9 0=_;rw[et0,ek7];exact ek7 _
       rw[g1,g2,en3 d1];rfl
     · rintro i σ H8 hi ⟨ts2,w14,rfl,hp8,s8⟩
       have e1:(1+(i:Int))=((i+1:Nat):Int):=by omega
       have b0:(1+(i:Int)).natAbs < 2^20000:=by rw[e1];exact P2 (ak0 (by omega))
       have kd:(i+1)*d<=x.left:=ed3 (ek0 d (show i+1<=x.left/d from hi)) (Nat.div_mul_le_self _ _);have kd0:i*d<=x.left:=ed3 (ek0 d (er9 i)) kd;have oki:=ca0 (rs:=rs) okx hl hn d1 d2 kd0;have ok2:=ca0 (rs:=rs) okx hl hn d1 d2 kd;have tbi:=ae0 oki.tb (by omega);have bbi:=ae0 oki.bb (by omega);refine ⟨_,rfl,_,rfl,_,_,rfl,rfl,⟨P2 tbi,P2 one_big⟩,_,rfl,_,rfl,_,_,rfl,rfl,⟨P2 bbi,P2 (ap8 d2)⟩,_,rfl,_,_,rfl,rfl,⟨cu1 bbi (ap8 d2),b0⟩,?_⟩;refine ⟨_,rfl,.inl ⟨rfl,_,g9.of hp8.at_⟩,_,rfl,_,rfl,_,rfl,_,_,rfl,rfl,⟨b0,bd⟩,_,_,rfl,rfl,_,rfl,_,_,rfl,rfl,_,rfl,_,rfl,(show 4<=sizeLine by decide),fun t2 nt2=> ?_⟩;have hp8':=hp8.keep (e7.upd_new (o:= .tup (ndV (V2 l d x (i+1)))) nt2);have few8:=hp8.few lr
       have n2p:t2≠pl:=fun z=>by rw[z,hp8.at_] at nt2;cases nt2
       have hp9:=hp8'.push (t:=t2) (x:=V2 l d x (i+1)) c8 ok2 (by show x.a - 1+_<=_;rw[ec6,eb7,ee9];omega) n2p;have s9:=(s8.trans (e7.upd_new (o:= .tup (ndV (V2 l d x (i+1)))) nt2)).upd_r (o:= .lst (ts2.map V.ref++[.ref t2])) npl2;rw[dq3 (by omega) kd] at hp8' hp9 s9;refine ⟨pl,_,_,rfl,rfl,hp8'.at_,ee5 (show _<=2000 by rw[eb7,hp8.len];omega) (by decide),?_⟩;refine ⟨ts2++[t2],some (.int (1+(i:Int))),?_,?_,s9⟩
       · have ec2:ndV (V2 l d x (i+1))=_:=dq3 (by omega) kd;have g1:V.int ((V2 l d x (i+1)).t:Int)=V.int (((V2 l d x i).t:Int)*(M1 l d:Int)):=congrArg (fun z=>z.getD 2 V.non) ec2;have g2:V.int ((V2 l d x (i+1)).b:Int)=V.int (((V2 l d x i).b:Int)*(l9 d:Int)*(1+(i:Int))):=congrArg (fun z=>z.getD 3 V.non) ec2;rw[g1,g2];rfl
       · rw[el8,ec4,<-ed9];exact hp9
     · rintro σ H8 ⟨ts2,w14,rfl,hp8,s8⟩
       have vv:(((ef4 (x.left/d+1)).map (V2 l d x)).map (Y9 l rs)).sum=Y9 l rs x:=by rw[eh3];exact di7 (fun d hd=>(dr d hd).1) ea hd
       have cc:(((ef4 (x.left/d+1)).map (V2 l d x)).map fun x=>cst rs x.a x.left).sum+1=cst rs x.a x.left:=by rw[eh3];exact di8 ea hd
       refine ⟨_,?_,tot,ts2,_,w4,_,_,_,_,_,_,_,w14,rfl,hp8,s8,?_,rfl⟩
       · rw[ec,ec4,en6];omega
       · rw[ec4,en6,vv,<-et];omega
theorem Q7:m8 ["p","m","found","counts","l"] ["p","m"] (j6 ad8):=⟨rfl,rfl,rfl,by decide+kernel,rfl,by decide+kernel,by decide+kernel⟩
theorem bj7 {f:Addr}{fd:FuncData}(F:E7 K "_law_how_many" "_law_how_many" ad8 f fd)(c_law_counts:o5 P w K mg base "_law_counts" 2 ["p"] bf1)(c_law_woven:o5 P w K mg base "_law_woven" 1 ["l","many","rights"] bn3)(c_law_rights:o5 P w K mg base "_law_rights" 1 ["l","m","most"] ay7):o8 P w K mg base G2 3 f fd ["p","m"] aj7:=by
 refine F.ok Q7 (fun vs H Q E h=> ?_) (fun cdv A outer s H vs Q E hr h=> ?_)
 · obtain ⟨a,p,m,rfl,⟨ha,tp,lp⟩,m1,q⟩:=h;rfl
 · obtain ⟨a,p,m,rfl,⟨ha,tp,lp⟩,m1,q⟩:=h;have hr_law_counts:n6 2 _:=hr.mono (by decide);have hr_law_woven:n6 1 _:=hr.mono (by decide);have hr_law_rights:n6 1 _:=hr.mono (by decide);have hu:=Q3 hr;refine ⟨_,@c7 _ _ _ _ _ (@i6 _ _ (2) _ _ _ _ Q7.nd rfl (Or.inl rfl) (@g8 _ _ _ _) (by rfl) (by trivial)) (@c7 _ _ _ _ _ (@i6 _ _ (3) _ _ _ _ Q7.nd rfl (Or.inl rfl) (@j7 _ _ _ _ _ _ _ _ _ _ c_law_counts hr_law_counts (@c5 _ _ _ _ _ (pv 0) (@c6 _) (by rfl)) (by rfl) (by decide) (by rfl) (by rfl)) (by rfl) (by trivial)) (@c7 _ _ _ _ _ (@o9 _ _ _ _ _ _ _ _ PassesOwn.never rfl (@bl4 _ _ _ _ (pv 3)) (@i8 _ _ (4) _ Q7.nd rfl (Or.inl rfl) (by trivial)) (@e8 _ _ _ (@i6 _ _ (2) _ _ _ _ Q7.nd rfl (Or.inl rfl) (@i7 _ _ _ _ _ _ _ _ P7 (pv 2) (@j7 _ _ _ _ _ _ _ _ _ _ c_law_woven hr_law_woven (@c5 _ _ _ _ _ (pv 4) (@c5 _ _ _ _ _ (@ao1 _ _ _ _ _ _ hu (pv 3) (pv 4) (fun _ _=>rfl)) (@c5 _ _ _ _ _ (@j7 _ _ _ _ _ _ _ _ _ _ c_law_rights hr_law_rights (@c5 _ _ _ _ _ (pv 4) (@c5 _ _ _ _ _ (pv 1) (@c5 _ _ _ _ _ (@ao1 _ _ _ _ _ _ hu (pv 3) (pv 4) (fun _ _=>rfl)) (@c6 _) (by rfl)) (by rfl)) (by rfl)) (by rfl) (by decide) (by rfl) (by rfl)) (@c6 _) (by rfl)) (by rfl)) (by rfl)) (by rfl) (by decide) (by rfl) (by rfl))) (by rfl) (by trivial))) (by intro _;rfl)) (@e8 _ _ _ (@j9 _ _ _ _ (pv 2))))),?_⟩;refine bb7 ?_;intros
   try dsimp only[y7,Cx.nox,Cx.wish]
   refine ⟨_,rfl,a,p,rfl,⟨ha,tp,lp⟩,fun d kvs ns H1 nd s1 ca bz ln=> ?_⟩;have up:=Z2 tp;generalize hrs:t8 p p.length=rs at ca up;have cl:=ad9 up;have fl:=ab7 tp up;refine ⟨_,rfl,d,kvs,rfl,ca.at_,fun o=> ?_⟩;have s4:e7 H (c9 H1 d (.frz o (.dK kvs))):=s1.upd_r nd;have h4d:(c9 H1 d (.frz o (.dK kvs))) d=some (.frz o (.dK kvs)):=c8;generalize (c9 H1 d (.frz o (.dK kvs)))=H4 at s4 h4d ⊢
   have lkv:kvs.length=ns.length:=by have:=congrArg et3 ca.keys;rw[eb7,eb7] at this;exact this
   have cb:∀u,t9 rs u<=40:=fun u=>by
     have:t9 rs u<=rs.length:=eu4;omega
   refine as2 (fun i σ H5=>∃(v:Option V),σ=[some (.ref a),some (.int (m:Int)),some (.int ((w9 (fun l=>C2 l m (t9 rs l)) ((ns.take i).map eq5):Nat):Int)),some (.ref d),v]/\e7 H4 H5)
     ⟨none,rfl,e7.refl H4⟩ (fun i σ H5 _ ⟨_,_,e⟩=>e _ _ h4d) ?_ ?_
   · rintro i k v σ H5 hi ⟨v4,rfl,s5⟩
     have hk:(kvs.map (·.1))[i]? =some k:=by rw[ec1,hi];rfl
     rw[show kvs.map (·.1)=ns.map Sum.inl from ca.keys,ec1] at hk
     cases hE:ns[i]? with
     |none=>rw[hE] at hk;cases hk
     |some z=>
      rw[hE] at hk;cases hk;have zm:=ec8 hE;have zb:=bz z zm;obtain ⟨u,rfl⟩:∃u:Nat,z=(u:Int):=⟨z.toNat,by omega⟩;have il:i < ns.length:=(eb9.mp hE).1;have vu:=ca.val u zm;have cu:=cb u
      have pb:w9 (fun l=>C2 l m (t9 rs l)) ((ns.take i).map eq5)<=(1600^40)^i:=by
        have:=bf6 (f:=fun l=>C2 l m (t9 rs l)) (c:=1600^40) (ks:=(ns.take i).map eq5) fun k hk=>by
          obtain ⟨e1,he1,rfl⟩:=ed2.mp hk;have:=bz e1 (ei5 he1);exact al4 (by omega) (cb _)
        rw[eb7,ee1,eu8 (by omega)] at this;exact this
      obtain ⟨F0,hF0⟩:∃F0,F0=w9 (fun l=>C2 l m (t9 rs l)) ((ns.take i).map eq5):=⟨_,rfl⟩;rw[<-hF0] at pb ⊢;refine ⟨_,rfl,_,rfl,_,rfl,_,rfl,d,_,rfl,.inl ⟨kvs,Sum.inl (u:Int),.inr ⟨o,s5 _ _ h4d⟩,rfl,vu.symm⟩,_,rfl,_,rfl,_,rfl,_,rfl,d,_,rfl,.inl ⟨kvs,Sum.inl (u:Int),.inr ⟨o,s5 _ _ h4d⟩,rfl,vu.symm⟩,u,m,t9 rs u,rfl,by omega,cu,fun fa H6 nfa s6 h6=> ?_⟩;refine ⟨u,t9 rs u,fa,_,rfl,h6,by omega,cu,ed3 (Y6 _ _ _) cu,fun d hd=>⟨(K0 hd).1,ed3 (K0 hd).2 cu⟩,fun H7 s7=> ?_⟩;refine ⟨_,_,rfl,rfl,⟨?_,?_⟩,some (.int (u:Int)),?_,(s5.trans s6).trans s7⟩
      · rw[el1];exact ee5 pb (ch2 i (by omega) (by decide))
      · rw[el1];exact ee5 (al4 (by omega) cu) (bj6 40 (ec0 _) (by decide))
      · rw[j8 hE,ec4,show ([(u:Int)].map eq5:List Nat)=[u] from rfl,as3,<-hF0,eg2];rfl
   · rintro σ H5 ⟨v,rfl,s5⟩;rw[lkv,ef3,al5 tp up (ks:=ns.map eq5) (List.Pairwise.map _ (fun a b h=>h) (List.Pairwise.imp_of_mem (fun {a b} ha hb h=>show a.toNat≠b.toNat from fun e=>h (by have:=bz a ha;have:=bz b hb;omega)) ca.nd)) (fun k hk=> ?_) (fun r hr=> ?_) (f:=fun l=>C2 l m (t9 rs l)) fun u hu=>by show C2 u m (t9 rs u)=1;rw[hu];rfl]
     · rw[<-hrs];exact ⟨_,rfl,q _ (s4.trans s5)⟩
     · obtain ⟨z,hz,rfl⟩:=ed2.mp hk;obtain ⟨r,hr,e⟩:=(ca.all z).mp hz;exact ⟨r,hr,by omega⟩
     · exact ed2.mpr ⟨(r.length:Int),(ca.all _).mpr ⟨r,hr,rfl⟩,rfl⟩
end
end My
namespace My
open PySem L2 Mth
section
variable {P:Program} {w:World} {K:PySem.W.Frag} {mg:Str->Option Value} {base:Heap}
def M5 {α:Type}(R:Addr->α->Prop)(ts:List Addr)(xs:List α):Prop:=ts.length=xs.length/\∀(j:Nat) t x,ts[j]? =some t->xs[j]? =some x->R t x
theorem M5.nil {α:Type}{R:Addr->α->Prop}:M5 R [] ([]:List α):=⟨rfl,fun j t x h=>by cases h⟩
theorem M5.imp {α:Type}{R S:Addr->α->Prop}{ts:List Addr}{xs:List α}(h:M5 R ts xs)(f:∀t x,t∈ts->R t x->S t x):M5 S ts xs:=⟨h.1,fun j t x e1 e2=>f t x (ec8 e1) (h.2 j t x e1 e2)⟩
theorem M5.snoc {α:Type}{R:Addr->α->Prop}{ts:List Addr}{xs:List α}{t:Addr}{x:α}(h:M5 R ts xs)(r:R t x):M5 R (ts++[t]) (xs++[x]):=by
 refine ⟨by rw[ec6,ec6,h.1];rfl,fun j u y e1 e2=> ?_⟩
 by_cases hj:j < ts.length
 · rw[ee4 hj] at e1;rw[ee4 (by rw[<-h.1];exact hj)] at e2;exact h.2 j u y e1 e2
 · rw[ee8 (by omega)] at e1;rw[ee8 (by rw[<-h.1];omega),<-h.1] at e2;have jl:=(eb9.mp e1).1
   have:j - ts.length=0:=by simp at jl;omega
   rw[this] at e1 e2;cases e1;cases e2;exact r
theorem M5.get {α:Type}{R:Addr->α->Prop}{ts:List Addr}{xs:List α}(h:M5 R ts xs){j:Nat}{t:Addr}(e:ts[j]? =some t):∃x,xs[j]? =some x/\R t x:=by
 have jl:=(eb9.mp e).1;exact ⟨_,eb8 (by rw[<-h.1];exact jl),h.2 j t _ e (eb8 _)⟩
def O3 (H:Hp)(zs:List Addr):Hp:=fun a=>if a∈zs then none else H a
theorem P3 {H:Hp}{zs:List Addr}{a:Addr}(h:a∉zs):O3 H zs a=H a:=if_neg h
theorem W6 {H:Hp}{zs:List Addr}{a:Addr}{u:HO}(e:O3 H zs a=some u):a∉zs/\H a=some u:=by
 unfold O3 at e
 by_cases c:a∈zs
 · rw[if_pos c] at e;cases e
 · rw[if_neg c] at e;exact ⟨c,e⟩
theorem bn4 {H:Hp}{zs:List Addr}{o:Addr}{x:HO}(ho:o∈zs):O3 (c9 H o x) zs=O3 H zs:=funext fun a=>by
 unfold O3
 by_cases e:a∈zs
 · rw[if_pos e,if_pos e]
 · rw[if_neg e,if_neg e,g6 (show a≠o from fun z=>e (by rw[z];exact ho))]
theorem ca2 (H:Hp)(zs:List Addr):e7 (O3 H zs) H:=fun a u e=>(W6 e).2
theorem Z7 {H H':Hp}{zs:List Addr}{o:Addr}(ho:o∈zs)(k:j5 o H H'):e7 (O3 H zs) (O3 H' zs):=fun a u e=>by
 obtain ⟨c,e⟩:=W6 e;rw[P3 c];exact k a u e (fun z=>c (by rw[z];exact ho))
theorem L5 {H H':Hp}{zs:List Addr}(s:e7 H H'):e7 (O3 H zs) (O3 H' zs):=fun a u e=>by
 obtain ⟨c,e⟩:=W6 e;rw[P3 c];exact s a u e
theorem ca3 {H H':Hp}{zs:List Addr}{o:Addr}(s:e7 H H')(ho:H o=none):e7 (O3 H zs) (O3 H' (o::zs)):=fun a u e=>by
 obtain ⟨c,e⟩:=W6 e;rw[P3 fun z=>(ee0.mp z).elim (fun y=>by rw[y,ho] at e;cases e) c];exact s a u e
theorem ca4 {H:Hp}{zs:List Addr}{o:Addr}:e7 (O3 H (o::zs)) (O3 H zs):=fun a u e=>by
 obtain ⟨c,e⟩:=W6 e;rw[P3 fun z=>c (ec7 _ z)];exact e
def V3 (H:Hp)(zs:List Addr):Prop:=∀z∈zs,∃u,H z=some u
theorem V3.keep {H H':Hp}{zs:List Addr}(h:V3 H zs)(s:e7 H H'):V3 H' zs:=fun z hz=>by
 obtain ⟨u,e⟩:=h z hz;exact ⟨u,s _ _ e⟩
theorem V3.cons {H:Hp}{zs:List Addr}{o:Addr}{u:HO}(h:V3 H zs)(e:H o=some u):V3 H (o::zs):=fun z hz=>by
 rcases ee0.mp hz with rfl|hz
 · exact ⟨u,e⟩
 · exact h z hz
theorem V3.out {H:Hp}{zs:List Addr}{a:Addr}(h:V3 H zs)(e:H a=none):a∉zs:=fun z=>by
 obtain ⟨u,e'⟩:=h a z;rw[e] at e';cases e'
def pk (rs:List (List Int))(i:Nat)(r:List Int)(b:Nat):List Int×List (List Int):=(r.drop b++r.take b,rs.take i++rs.drop (i+1))
def af2 (rs:List (List Int))(i:Nat)(r:List Int):List (List Int×List (List Int)):=(ef4 r.length).map (pk rs i r)
def L6 (rs:List (List Int)):Nat->List (List Int×List (List Int))
 |0=>[]
 |i+1=>L6 rs i++af2 rs i (rs.getD i [])
def ak1 (H:Hp)(t:Addr)(x:List Int×List (List Int)):Prop:=∃(a l:Addr) (as:List Addr),H t=some (.tup [.ref a,.ref l])/\H a=some (.lst (x.1.map V.int))/\H l=some (.lst (as.map V.ref))/\m9 H as x.2
theorem ak1.keep {H H':Hp}{t:Addr}{x:List Int×List (List Int)}(h:ak1 H t x)(s:e7 H H'):ak1 H' t x:=by
 obtain ⟨a,l,as,h1,h2,h3,h4⟩:=h;exact ⟨a,l,as,s _ _ h1,s _ _ h2,s _ _ h3,t6 h4 fun b _ o e=>s b o e⟩
theorem br2 (rs:List (List Int))(h:∀r∈rs,r.length<=40):∀i,i<=rs.length->(L6 rs i).length<=40*i
 |0,_=>ed7 _
 |i+1,hi=>by
  have:=br2 rs h i (by omega);show (L6 rs i++af2 rs i (rs.getD i [])).length<=_;rw[ec6];unfold af2;rw[eb7,ee9]
  have:(rs.getD i []).length<=40:=by
    rw[ec3,eb8 (by omega)];exact h _ (ef2 _)
  omega
theorem cu2 {H:Hp}{as:List Addr}{rs:List (List Int)}(h:m9 H as rs)(i:Nat):m9 H (as.take i) (rs.take i):=
 ⟨by rw[ee1,ee1,h.1],fun j a r e1 e2=>by
   rw[es7] at e1 e2
   by_cases c:j < i
   · rw[if_pos c] at e1 e2;exact h.2 j a r e1 e2
   · rw[if_neg c] at e1;cases e1⟩
theorem cu3 {H:Hp}{as:List Addr}{rs:List (List Int)}(h:m9 H as rs)(i:Nat):m9 H (as.drop i) (rs.drop i):=
 ⟨by rw[eg1,eg1,h.1],fun j a r e1 e2=>by
   rw[eo5] at e1 e2
   exact h.2 _ a r e1 e2⟩
def bn5:Sp:=fun vs H Q _=>∃(l:Addr) (as:List Addr) (rs:List (List Int)) (zs:List Addr),vs=[.ref l]/\H l=some (.lst (as.map V.ref))/\m9 (O3 H zs) as rs/\V3 H zs/\rs.length<=40/\(∀r∈rs,r.length<=40)/\∀(o:Addr) (ts:List Addr) (H':Hp),H o=none->e7 H H'->H' o=some (.lst (ts.map V.ref))->M5 (ak1 (O3 H' (o::zs))) ts (L6 rs rs.length)->Q (.ref o) H'
theorem U8:m8 ["rings","picks","at","ring","left","begin"] ["rings"] (j6 at3):=⟨rfl,rfl,rfl,by decide+kernel,rfl,by decide+kernel,by decide+kernel⟩
theorem cd7 {f:Addr}{fd:FuncData}(F:E7 K "picks_of" "picks_of" at3 f fd)(B:Bl mg):o8 P w K mg base G2 1 f fd ["rings"] bn5:=by
 refine F.ok U8 (fun vs H Q E h=> ?_) (fun cdv A outer s H vs Q E hr h=> ?_)
 · obtain ⟨l,as,rs,zs,rfl,hl,rows,thz,lr,lr2,q⟩:=h;rfl
 · obtain ⟨l,as,rs,zs,rfl,hl,rows,thz,lr,lr2,q⟩:=h;refine ⟨_,@c7 _ _ _ _ _ (@i6 _ _ (1) _ _ _ _ U8.nd rfl (Or.inl rfl) (@o6 _ _ _ _ (@c6 _)) (by rfl) (by trivial)) (@c7 _ _ _ _ _ (@o9 _ _ _ _ _ _ _ _ PassesOwn.never rfl (@ao5 _ _ _ _ _ _ _ _ B.enum (@c5 _ _ _ _ _ (pv 0) (@c6 _) (by rfl)) (by rfl) (by rfl)) (@Y2 _ _ _ _ _ _ rfl (@C5 _ _ _ _ _ (@i8 _ _ (2) _ U8.nd rfl (Or.inl rfl) (by trivial)) (@C5 _ _ _ _ _ (@i8 _ _ (3) _ U8.nd rfl (Or.inl rfl) (by trivial)) (@U5 _) (by rfl)) (by rfl)) (by rfl) (by rfl)) (@c7 _ _ _ _ _ (@i6 _ _ (4) _ _ _ _ U8.nd rfl (Or.inl rfl) (@i7 _ _ _ _ _ _ _ _ ae6 (@ah9 _ _ _ _ _ _ _ _ _ _ an9 (pv 0) (@an8 _) (@ac7 _ _ _ (pv 2))) (@ah9 _ _ _ _ _ _ _ _ _ _ an9 (pv 0) (@ac7 _ _ _ (@i7 _ _ _ _ _ _ _ _ E3 (pv 2) (@g8 _ _ _ _))) (@an8 _))) (by rfl) (by trivial)) (@e8 _ _ _ (@o9 _ _ _ _ _ _ _ _ PassesOwn.never rfl (@G5 _ _ _ _ _ _ (by rfl) B.range (@c5 _ _ _ _ _ (@A0 _ _ _ _ _ B.len (@c5 _ _ _ _ _ (pv 3) (@c6 _) (by rfl)) (by rfl) (by rfl)) (@c6 _) (by rfl)) (by rfl)) (@i8 _ _ (5) _ U8.nd rfl (Or.inl rfl) (by trivial)) (@e8 _ _ _ (@C3 _ _ _ _ (@C7 _ _ _ _ _ _ _ (pv 1) (@c5 _ _ _ _ _ (@ah8 _ _ _ _ _ (@c5 _ _ _ _ _ (@i7 _ _ _ _ _ _ _ _ ae6 (@ah9 _ _ _ _ _ _ _ _ _ _ an9 (pv 3) (@ac7 _ _ _ (pv 5)) (@an8 _)) (@ah9 _ _ _ _ _ _ _ _ _ _ an9 (pv 3) (@an8 _) (@ac7 _ _ _ (pv 5)))) (@c5 _ _ _ _ _ (pv 4) (@c6 _) (by rfl)) (by rfl))) (@c6 _) (by rfl)) (by rfl) (by rfl) (by rfl) (by rfl) (by rfl)) (by rfl))) (by intro _;rfl)))) (by intro _;rfl)) (@e8 _ _ _ (@j9 _ _ _ _ (pv 1)))),?_⟩
   try dsimp only[y7,Cx.nox,Cx.wish]
   refine ⟨ed7 _,fun o ho=> ?_⟩;have s1:e7 H (c9 H o (.lst [])):=e7.upd_new ho;have h1o:(c9 H o (.lst [])) o=some (.lst (([]:List Addr).map V.ref)):=c8;generalize (c9 H o (.lst []))=H1 at s1 h1o ⊢;have nlo:l≠o:=g7 hl ho
   refine ⟨_,rfl,l,rfl,⟨_,g9.of (s1 _ _ hl)⟩,ai5 (K:=K) (a:=l) (xs:=as.map V.ref) (fun i σ H2=>∃(ts:List Addr) (v2 v3 v4 v5:Option V),σ=[some (.ref l),some (.ref o),v2,v3,v4,v5]/\H2 o=some (.lst (ts.map V.ref))/\M5 (ak1 (O3 H2 (o::zs))) ts (L6 rs i)/\e7 H H2)
     ⟨[],none,none,none,none,rfl,h1o,M5.nil,s1⟩ (fun i σ H2 _ ⟨_,_,_,_,_,_,_,_,s⟩=>g9.of (s _ _ hl)) ?_ ?_⟩
   · rintro i y σ H2 tt hi ⟨ts,v2,v3,v4,v5,rfl,h2o,ats,s2⟩ htt
     obtain ⟨a,ha,rfl⟩:∃a,as[i]? =some a/\y=V.ref a:=by
       rw[ec1] at hi
       cases e:as[i]? with
       |none=>rw[e] at hi;cases hi
       |some a=>rw[e] at hi;exact ⟨a,rfl,(Option.some.inj hi).symm⟩
     have il:i < rs.length:=by rw[<-rows.1];exact (eb9.mp ha).1
     obtain ⟨r,hr⟩:∃r,rs[i]? =some r:=⟨_,eb8 il⟩
     have er:rs.getD i []=r:=by rw[ec3,hr];rfl
     have lr40:=lr2 r (ec8 hr);have h0a:=(W6 (rows.2 i a r ha hr)).2;have s3:e7 H2 (c9 H2 tt (.tup [.int (i:Int),.ref a])):=e7.upd_new htt;have h3t:(c9 H2 tt (.tup [.int (i:Int),.ref a])) tt=some (.tup [.int (i:Int),.ref a]):=c8;generalize (c9 H2 tt (.tup [.int (i:Int),.ref a]))=H3 at s3 h3t ⊢;refine ⟨tt,_,rfl,Q0.of h3t,rfl,_,_,rfl,_,_,rfl,rfl,?_⟩;have s03:=s2.trans s3
     have la:(as.map V.ref).length=rs.length:=by rw[eb7,rows.1]
     refine ⟨_,rfl,_,rfl,_,rfl,l,_,rfl,g9.of (s03 _ _ hl),fun x1 hx1=> ?_⟩;rw[cq6 (as.map V.ref) i (by omega),<-ez2];have s4:e7 H3 (c9 H3 x1 (.lst ((as.take i).map V.ref))):=e7.upd_new hx1;have h4x:(c9 H3 x1 (.lst ((as.take i).map V.ref))) x1=some (.lst ((as.take i).map V.ref)):=c8;generalize (c9 H3 x1 (.lst ((as.take i).map V.ref)))=H4 at s4 h4x ⊢;have s04:=s03.trans s4;refine ⟨_,rfl,_,rfl,_,_,rfl,rfl,_,rfl,l,_,rfl,g9.of (s04 _ _ hl),fun x2 hx2=> ?_⟩;rw[show ((i:Int)+1)=((i+1:Nat):Int) by omega,be3 (as.map V.ref) (i+1) (by omega),<-List.map_drop];have s5:e7 H4 (c9 H4 x2 (.lst ((as.drop (i+1)).map V.ref))):=e7.upd_new hx2;have h5x:(c9 H4 x2 (.lst ((as.drop (i+1)).map V.ref))) x2=some (.lst ((as.drop (i+1)).map V.ref)):=c8;generalize (c9 H4 x2 (.lst ((as.drop (i+1)).map V.ref)))=H5 at s5 h5x ⊢;refine ⟨x1,x2,_,_,rfl,rfl,s5 _ _ h4x,h5x,ei1 (t5 (by simp only[eb7,ee1,eg1];have:=rows.1;omega)),fun L hL=> ?_⟩;rw[<-ec4];have s6:e7 H5 (c9 H5 L (.lst ((as.take i++as.drop (i+1)).map V.ref))):=e7.upd_new hL;have h6L:(c9 H5 L (.lst ((as.take i++as.drop (i+1)).map V.ref))) L=some (.lst ((as.take i++as.drop (i+1)).map V.ref)):=c8;generalize (c9 H5 L (.lst ((as.take i++as.drop (i+1)).map V.ref)))=H6 at s6 h6L ⊢;have s26:=((s3.trans s4).trans s5).trans s6;have s06:=s2.trans s26;have th2:V3 H2 (o::zs):=(thz.keep s2).cons h2o;have nLo:L∉o::zs:=(th2.keep ((s3.trans s4).trans s5)).out hL
     have nLo1:L≠o:=fun z=>nLo (z▸ec5)
     have rowsO:m9 (O3 H6 (o::zs)) (as.take i++as.drop (i+1)) (rs.take i++rs.drop (i+1)):=t6 (be6 (cu2 rows i) (cu3 rows (i+1))) fun b _ u e=>ca3 s06 ho b u e
     have ats6:M5 (ak1 (O3 H6 (o::zs))) ts (L6 rs i):=ats.imp fun t x _ h=>h.keep (L5 s26)
     refine ⟨_,rfl,a,_,rfl,.inl (g9.of (s06 _ _ h0a)),_,rfl,by rw[eb7];omega,by rw[eb7];omega,?_⟩;rw[eb7,show ((r.length:Int)).toNat=r.length by omega];have tl:=ats.1;have pl:=br2 rs lr2 i (by omega)
     refine C6 (lo:=0) (n:=r.length) (fun b σ H7=>∃(ts:List Addr) (v5:Option V),σ=[some (.ref l),some (.ref o),some (.int (i:Int)),some (.ref a),some (.ref L),v5]/\H7 o=some (.lst (ts.map V.ref))/\M5 (ak1 (O3 H7 (o::zs))) ts (L6 rs i++(ef4 b).map (pk rs i r))/\j5 o H6 H7)
       ⟨ts,v5,rfl,s26 _ _ h2o,by rw[List.range_zero,ep5,ee3];exact ats6,j5.refl _ _⟩ ?_ ?_
     · rintro b σ H7 hb ⟨ts,v5,rfl,h7o,ats7,kb7⟩
       have e0:(0:Int)+(b:Int)=(b:Int):=by omega
       rw[e0];have s07:e7 H H7:=s06.kb kb7 ho;have h7a:=s07 _ _ h0a
       have lts:ts.length<=1700:=by
         have:=ats7.1;rw[ec6,eb7,ee9] at this;omega
       refine ⟨_,rfl,.inl ⟨rfl,_,g9.of h7o⟩,_,rfl,_,rfl,_,rfl,a,_,rfl,g9.of h7a,fun y1 hy1=> ?_⟩;rw[be3 (r.map V.int) b (by rw[eb7];omega),<-List.map_drop];have s8:e7 H7 (c9 H7 y1 (.lst ((r.drop b).map V.int))):=e7.upd_new hy1;have h8y:(c9 H7 y1 (.lst ((r.drop b).map V.int))) y1=some (.lst ((r.drop b).map V.int)):=c8;generalize (c9 H7 y1 (.lst ((r.drop b).map V.int)))=H8 at s8 h8y ⊢;refine ⟨_,rfl,_,rfl,_,rfl,a,_,rfl,g9.of (s8 _ _ h7a),fun y2 hy2=> ?_⟩;rw[cq6 (r.map V.int) b (by rw[eb7];omega),<-ez2];have s9:e7 H8 (c9 H8 y2 (.lst ((r.take b).map V.int))):=e7.upd_new hy2;have h9y:(c9 H8 y2 (.lst ((r.take b).map V.int))) y2=some (.lst ((r.take b).map V.int)):=c8;generalize (c9 H8 y2 (.lst ((r.take b).map V.int)))=H9 at s9 h9y ⊢;refine ⟨y1,y2,_,_,rfl,rfl,s9 _ _ h8y,h9y,ei1 (t5 (by simp only[eb7,ee1,eg1];omega)),fun c hc=> ?_⟩;rw[<-ec4];have s10:e7 H9 (c9 H9 c (.lst ((r.drop b++r.take b).map V.int))):=e7.upd_new hc;have h10c:(c9 H9 c (.lst ((r.drop b++r.take b).map V.int))) c=some (.lst ((r.drop b++r.take b).map V.int)):=c8;generalize (c9 H9 c (.lst ((r.drop b++r.take b).map V.int)))=H10 at s10 h10c ⊢;refine ⟨_,rfl,(show 2<=sizeLine by decide),fun t ht=> ?_⟩;have s11:e7 H10 (c9 H10 t (.tup [.ref c,.ref L])):=e7.upd_new ht;have h11t:(c9 H10 t (.tup [.ref c,.ref L])) t=some (.tup [.ref c,.ref L]):=c8;generalize (c9 H10 t (.tup [.ref c,.ref L]))=H11 at s11 h11t ⊢;have s79:=s8.trans s9;have s710:=s79.trans s10;have s711:=s710.trans s11;have th7:V3 H7 (o::zs):=(thz.keep s07).cons h7o;have nco:c∉o::zs:=(th7.keep s79).out hc;have nto:t∉o::zs:=(th7.keep s710).out ht;refine ⟨o,_,_,rfl,rfl,s711 _ _ h7o,ee5 (show _<=2000 by rw[eb7];omega) (by decide),?_⟩;rw[show ts.map V.ref++[V.ref t]=(ts++[t]).map V.ref by rw[ec4];rfl];refine ⟨ts++[t],_,rfl,c8,?_,(kb7.trans (s711.but o)).upd_a⟩;rw[bn4 ec5,el8,ec4,<-ed9];refine M5.snoc (ats7.imp fun t x _ h=>h.keep (L5 s711)) ?_;have h7L:=kb7 _ _ h6L nLo1;refine ⟨c,L,_,by rw[P3 nto];exact h11t,by rw[P3 nco];exact s11 _ _ h10c,by rw[P3 nLo];exact s711 _ _ h7L,?_⟩
       exact t6 rowsO fun b _ u e=>(Z7 ec5 (kb7.trans (s711.but o))) b u e
     · rintro σ H7 ⟨ts,v5,rfl,h7o,ats7,kb7⟩;refine ⟨ts,_,_,_,v5,rfl,h7o,?_,s06.kb kb7 ho⟩;show M5 _ ts (L6 rs i++af2 rs i (rs.getD i []));rw[er];exact ats7
   · rintro σ H2 ⟨ts,v2,v3,v4,v5,rfl,h2o,ats,s2⟩;rw[eb7,rows.1] at ats;exact ⟨_,rfl,q o ts H2 ho s2 h2o ats⟩
def nxC (x:List (List Int)×List (List Int)):List (List (List Int)×List (List Int)):=(L6 x.2 x.2.length).map fun y=>(x.1++[y.1],y.2)
def C0 (rs:List (List Int)):Nat->List (List (List Int)×List (List Int))
 |0=>[([rs.getD 0 []],rs.drop 1)]
 |k+1=>(C0 rs k).flatMap nxC
def R8 (H:Hp)(t:Addr)(x:List (List Int)×List (List Int)):Prop:=∃(c l:Addr) (cs as:List Addr),H t=some (.tup [.ref c,.ref l])/\H c=some (.lst (cs.map V.ref))/\m9 H cs x.1/\H l=some (.lst (as.map V.ref))/\m9 H as x.2
theorem R8.keep {H H':Hp}{t:Addr}{x:List (List Int)×List (List Int)}(h:R8 H t x)(s:e7 H H'):R8 H' t x:=by
 obtain ⟨c,l,cs,as,h1,h2,h3,h4,h5⟩:=h;exact ⟨c,l,cs,as,s _ _ h1,s _ _ h2,t6 h3 fun b _ o e=>s b o e,s _ _ h4,t6 h5 fun b _ o e=>s b o e⟩
theorem bg0 {rs:List (List Int)}:∀(i:Nat) {y:List Int×List (List Int)},y∈L6 rs i->y.2.length<=rs.length/\∀r∈y.2,r∈rs
 |0,y,h=>by cases h
 |i+1,y,h=>by
  rcases ed0.mp h with z|z
  · exact bg0 i z
  · obtain ⟨b,_,rfl⟩:=ed2.mp z;refine ⟨?_,fun r hr=> ?_⟩
    · show (rs.take i++rs.drop (i+1)).length<=_;rw[ec6,ee1,eg1];omega
    · rcases ed0.mp hr with w|w
      · exact ei5 w
      · exact ep1 w
theorem ay8 {rs:List (List Int)}:∀(k:Nat) {x:List (List Int)×List (List Int)},x∈C0 rs k->x.2.length<=rs.length/\(∀r∈x.2,r∈rs)/\x.1.length=k+1
 |0,x,h=>by
  rw[ec9.mp h];exact ⟨by show (rs.drop 1).length<=_;rw[eg1];omega,fun r hr=>ep1 hr,rfl⟩
 |k+1,x,h=>by
  obtain ⟨x',h',z⟩:=ei4.mp h;obtain ⟨y,hy,rfl⟩:=ed2.mp z;obtain ⟨a,b,c⟩:=ay8 k h';obtain ⟨d,e⟩:=bg0 _ hy;exact ⟨ed3 d a,fun r hr=>b r (e r hr),by show (x'.1++[y.1]).length=_;rw[ec6,c];rfl⟩
def au8:Sp:=fun vs H Q _=>∃(l:Addr) (as:List Addr) (rs:List (List Int)) (zs:List Addr) (part:Nat),vs=[.ref l,.int (part:Int)]/\H l=some (.lst (as.map V.ref))/\l∉zs/\m9 (O3 H zs) as rs/\V3 H zs/\1<=rs.length/\rs.length<=40/\(∀r∈rs,r.length<=40)/\1<=part/\part<=40/\(∀k,k < part->(C0 rs k).length<=2000)/\∀(o:Addr) (ts:List Addr) (H':Hp),H o=none->e7 H H'->H' o=some (.lst (ts.map V.ref))->M5 (R8 (O3 H' zs)) ts (C0 rs (part - 1))->Q (.ref o) H'
theorem L7:m8 ["rings","part","chains","taken","longer","chain","left","ring","rest"] ["rings","part"] (j6 am6):=⟨rfl,rfl,rfl,by decide+kernel,rfl,by decide+kernel,by decide+kernel⟩
theorem ca5 {f:Addr}{fd:FuncData}(F:E7 K "chains_of" "chains_of" am6 f fd)(B:Bl mg)(c_picks_of:o5 P w K mg base "picks_of" 1 ["rings"] bn5):o8 P w K mg base G2 2 f fd ["rings","part"] au8:=by
 refine F.ok L7 (fun vs H Q E h=> ?_) (fun cdv A outer s H vs Q E hr h=> ?_)
 · obtain ⟨l,as,rs,zs,part,rfl,hl,nlz,rows,thz,lr1,lr,lr2,p1,p2,few,q⟩:=h;rfl
 · obtain ⟨l,as,rs,zs,part,rfl,hl,nlz,rows,thz,lr1,lr,lr2,p1,p2,few,q⟩:=h;have hr_picks_of:n6 1 _:=hr.mono (by decide);refine ⟨_,@c7 _ _ _ _ _ (@i6 _ _ (2) _ _ _ _ L7.nd rfl (Or.inl rfl) (@o6 _ _ _ _ (@c5 _ _ _ _ _ (@ah8 _ _ _ _ _ (@c5 _ _ _ _ _ (@o6 _ _ _ _ (@c5 _ _ _ _ _ (@J2 _ _ _ _ _ _ _ B9 (pv 0) (@g8 _ _ _ _) (fun _ _=>rfl)) (@c6 _) (by rfl))) (@c5 _ _ _ _ _ (@ah9 _ _ _ _ _ _ _ _ _ _ an9 (pv 0) (@ac7 _ _ _ (@g8 _ _ _ _)) (@an8 _)) (@c6 _) (by rfl)) (by rfl))) (@c6 _) (by rfl))) (by rfl) (by trivial)) (@c7 _ _ _ _ _ (@o9 _ _ _ _ _ _ _ _ PassesOwn.never rfl (@O1 _ _ _ _ _ _ _ (by rfl) B.range (@c5 _ _ _ _ _ (@g8 _ _ _ _) (@c5 _ _ _ _ _ (pv 1) (@c6 _) (by rfl)) (by rfl)) (by rfl) (by rfl)) (@i8 _ _ (3) _ L7.nd rfl (Or.inl rfl) (by trivial)) (@c7 _ _ _ _ _ (@i6 _ _ (4) _ _ _ _ L7.nd rfl (Or.inl rfl) (@o6 _ _ _ _ (@c6 _)) (by rfl) (by trivial)) (@c7 _ _ _ _ _ (@o9 _ _ _ _ _ _ _ _ PassesOwn.never rfl (@E2 _ _ _ _ (pv 2)) (@Y2 _ _ _ _ _ _ rfl (@C5 _ _ _ _ _ (@i8 _ _ (5) _ L7.nd rfl (Or.inl rfl) (by trivial)) (@C5 _ _ _ _ _ (@i8 _ _ (6) _ L7.nd rfl (Or.inl rfl) (by trivial)) (@U5 _) (by rfl)) (by rfl)) (by rfl) (by rfl)) (@e8 _ _ _ (@o9 _ _ _ _ _ _ _ _ PassesOwn.never rfl (@E2 _ _ _ _ (@j7 _ _ _ _ _ _ _ _ _ _ c_picks_of hr_picks_of (@c5 _ _ _ _ _ (pv 6) (@c6 _) (by rfl)) (by rfl) (by decide) (by rfl) (by rfl))) (@Y2 _ _ _ _ _ _ rfl (@C5 _ _ _ _ _ (@i8 _ _ (7) _ L7.nd rfl (Or.inl rfl) (by trivial)) (@C5 _ _ _ _ _ (@i8 _ _ (8) _ L7.nd rfl (Or.inl rfl) (by trivial)) (@U5 _) (by rfl)) (by rfl)) (by rfl) (by rfl)) (@e8 _ _ _ (@C3 _ _ _ _ (@C7 _ _ _ _ _ _ _ (pv 4) (@c5 _ _ _ _ _ (@ah8 _ _ _ _ _ (@c5 _ _ _ _ _ (@i7 _ _ _ _ _ _ _ _ ae6 (pv 5) (@o6 _ _ _ _ (@c5 _ _ _ _ _ (pv 7) (@c6 _) (by rfl)))) (@c5 _ _ _ _ _ (pv 8) (@c6 _) (by rfl)) (by rfl))) (@c6 _) (by rfl)) (by rfl) (by rfl) (by rfl) (by rfl) (by rfl)) (by rfl))) (by intro _;rfl))) (by intro _;rfl)) (@e8 _ _ _ (@i6 _ _ (2) _ _ _ _ L7.nd rfl (Or.inl rfl) (pv 4) (by rfl) (by trivial))))) (by intro _;rfl)) (@e8 _ _ _ (@j9 _ _ _ _ (pv 2)))),?_⟩
   try dsimp only[y7,Cx.nox,Cx.wish]
   obtain ⟨a0,as',rfl⟩:∃a0 as',as=a0::as':=by
     cases as with
     |nil=>have:=rows.1;simp at this;omega
     |cons a t=>exact ⟨a,t,rfl⟩
   obtain ⟨r0,rs',rfl⟩:∃r0 rs',rs=r0::rs':=by
     cases rs with
     |nil=>simp at lr1
     |cons a t=>exact ⟨a,t,rfl⟩
   have h0:O3 H zs a0=some (.lst (r0.map V.int)):=rows.2 0 a0 r0 rfl rfl;refine ⟨_,rfl,l,_,_,_,rfl,rfl,g9.of hl,(C4 (j:=0) rfl),(show 1<=sizeLine by decide),fun c0 hc0=> ?_⟩;have s1:e7 H (c9 H c0 (.lst [V.ref a0])):=e7.upd_new hc0;have h1c:(c9 H c0 (.lst [V.ref a0])) c0=some (.lst (([a0]:List Addr).map V.ref)):=c8;generalize (c9 H c0 (.lst [V.ref a0]))=H1 at s1 h1c ⊢;refine ⟨_,rfl,_,rfl,l,_,rfl,g9.of (s1 _ _ hl),fun x1 hx1=> ?_⟩;rw[show aq5 ((a0::as').map V.ref) (some 1) none=as'.map V.ref from be3 ((a0::as').map V.ref) 1 (by simp)];have s2:e7 H1 (c9 H1 x1 (.lst (as'.map V.ref))):=e7.upd_new hx1;have h2x:(c9 H1 x1 (.lst (as'.map V.ref))) x1=some (.lst (as'.map V.ref)):=c8;generalize (c9 H1 x1 (.lst (as'.map V.ref)))=H2 at s2 h2x ⊢;refine ⟨(show 2<=sizeLine by decide),fun t0 ht0=> ?_⟩;have s3:e7 H2 (c9 H2 t0 (.tup [.ref c0,.ref x1])):=e7.upd_new ht0;have h3t:(c9 H2 t0 (.tup [.ref c0,.ref x1])) t0=some (.tup [.ref c0,.ref x1]):=c8;generalize (c9 H2 t0 (.tup [.ref c0,.ref x1]))=H3 at s3 h3t ⊢;refine ⟨(show 1<=sizeLine by decide),fun F0 hF0=> ?_⟩;have s4:e7 H3 (c9 H3 F0 (.lst [V.ref t0])):=e7.upd_new hF0;have h4F:(c9 H3 F0 (.lst [V.ref t0])) F0=some (.lst (([t0]:List Addr).map V.ref)):=c8;generalize (c9 H3 F0 (.lst [V.ref t0]))=H4 at s4 h4F ⊢;have s02:=s1.trans s2;have s03:=s02.trans s3;have s04:=s03.trans s4;have n1:c0∉zs:=thz.out hc0;have n2:x1∉zs:=(thz.keep s1).out hx1;have n3:t0∉zs:=(thz.keep s02).out ht0
   have ch0:R8 (O3 H4 zs) t0 ([r0],rs'):=by
     refine ⟨c0,x1,[a0],as',by rw[P3 n3];exact s4 _ _ h3t,by rw[P3 n1];exact ((s2.trans s3).trans s4) _ _ h1c,⟨rfl,fun j b r e1 e2=> ?_⟩,by rw[P3 n2];exact (s3.trans s4) _ _ h2x,⟨by have:=rows.1;simpa using this,fun j b r e1 e2=> ?_⟩⟩
     · rcases j with _|j
       · cases e1;cases e2;exact L5 s04 _ _ h0
       · cases e1
     · exact L5 s04 _ _ (rows.2 (j+1) b r e1 e2)
   refine ⟨_,rfl,1,(part:Int),rfl,⟨by decide,by decide,by omega,by omega⟩,?_⟩;rw[show ((part:Int) - 1).toNat=part - 1 by omega]
   refine C6 (lo:=1) (n:=part - 1) (fun i σ H5=>∃(F:Addr) (ts:List Addr) (v3 v4 v5 v6 v7 v8:Option V),σ=[some (.ref l),some (.int (part:Int)),some (.ref F),v3,v4,v5,v6,v7,v8]/\H5 F=some (.lst (ts.map V.ref))/\M5 (R8 (O3 H5 zs)) ts (C0 (r0::rs') i)/\e7 H H5/\H F=none)
     ⟨F0,[t0],none,none,none,none,none,none,rfl,h4F,⟨rfl,fun j t x e1 e2=>by
       rcases j with _|j
       · cases e1;cases e2;exact ch0
       · cases e1⟩,s04,s03.free hF0⟩ ?_ ?_
   · rintro i σ H5 hi ⟨F,ts,v3,v4,v5,v6,v7,v8,rfl,h5F,ats,s05,hF⟩;refine ⟨ed7 _,fun L hL=> ?_⟩;have nFL:F≠L:=g7 h5F hL;have hL0:H L=none:=s05.free hL;have s6:e7 H5 (c9 H5 L (.lst [])):=e7.upd_new hL;have h6L:(c9 H5 L (.lst [])) L=some (.lst (([]:List Addr).map V.ref)):=c8;generalize (c9 H5 L (.lst []))=H6 at s6 h6L ⊢
     have ats6:M5 (R8 (O3 H6 (L::zs))) ts (C0 (r0::rs') i):=ats.imp fun t x _ h=>h.keep (ca3 s6 hL)
     have few1:=few (i+1) (by omega)
     refine ⟨_,rfl,F,rfl,⟨_,g9.of (s6 _ _ h5F)⟩,K2 (K:=K) (a:=F) (xs:=ts.map V.ref) (fun j σ H7=>∃(us:List Addr) (v5 v6 v7 v8:Option V),σ=[some (.ref l),some (.int (part:Int)),some (.ref F),some (.int (1+(i:Int))),some (.ref L),v5,v6,v7,v8]/\H7 L=some (.lst (us.map V.ref))/\M5 (R8 (O3 H7 (L::zs))) us (((C0 (r0::rs') i).take j).flatMap nxC)/\j5 L H6 H7)
       ⟨[],v5,v6,v7,v8,rfl,h6L,M5.nil,j5.refl _ _⟩ (fun j σ H7 _ ⟨_,_,_,_,_,_,_,_,k⟩=>g9.of (k _ _ (s6 _ _ h5F) nFL)) ?_ ?_⟩
     · rintro j y σ H7 hj ⟨us,v5,v6,v7,v8,rfl,h7L,atu,kb7⟩
       obtain ⟨t,ht,rfl⟩:∃t,ts[j]? =some t/\y=V.ref t:=by
         rw[ec1] at hj
         cases e:ts[j]? with
         |none=>rw[e] at hj;cases hj
         |some a=>rw[e] at hj;exact ⟨a,rfl,(Option.some.inj hj).symm⟩
       obtain ⟨x,hx,cx⟩:=ats6.get ht;obtain ⟨c,xl,cs,bs,g1,g2,g3,g4,g5⟩:=cx.keep (Z7 ec5 kb7);obtain ⟨b1,b2,b3⟩:=ay8 i (ec8 hx);refine ⟨t,_,rfl,Q0.of (W6 g1).2,rfl,_,_,rfl,_,_,rfl,rfl,?_⟩;have s07:e7 H H7:=(s05.trans s6).kb kb7 hL0;have th7:V3 H7 (L::zs):=(thz.keep s07).cons h7L;refine ⟨_,rfl,xl,bs,x.2,L::zs,rfl,(W6 g4).2,g5,th7,by omega,fun r hr=>lr2 r (b2 r hr),fun o ps H8 ho s8 h8o atp=> ?_⟩;have noL:o≠L:=(g7 h7L ho).symm;have cx8:R8 (O3 H8 (L::zs)) t x:=R8.keep ⟨c,xl,cs,bs,g1,g2,g3,g4,g5⟩ (L5 s8);have lenP:=atp.1
       refine ⟨o,rfl,⟨_,g9.of h8o⟩,K2 (K:=K) (a:=o) (xs:=ps.map V.ref) (fun k σ H9=>∃(us:List Addr) (v7 v8:Option V),σ=[some (.ref l),some (.int (part:Int)),some (.ref F),some (.int (1+(i:Int))),some (.ref L),some (.ref c),some (.ref xl),v7,v8]/\H9 L=some (.lst (us.map V.ref))/\M5 (R8 (O3 H9 (L::zs))) us (((C0 (r0::rs') i).take j).flatMap nxC++(nxC x).take k)/\j5 L H8 H9)
         ⟨us,v7,v8,rfl,s8 _ _ h7L,by rw[eo4,ee3];exact atu.imp fun t x _ h=>h.keep (L5 s8),j5.refl _ _⟩ (fun k σ H9 _ ⟨_,_,_,_,_,_,kk⟩=>g9.of (kk _ _ h8o noL)) ?_ ?_⟩
       · rintro k y σ H9 hk ⟨us,v7,v8,rfl,h9L,at9,kb9⟩
         obtain ⟨t',ht',rfl⟩:∃t,ps[k]? =some t/\y=V.ref t:=by
           rw[ec1] at hk
           cases e:ps[k]? with
           |none=>rw[e] at hk;cases hk
           |some a=>rw[e] at hk;exact ⟨a,rfl,(Option.some.inj hk).symm⟩
         obtain ⟨y,hy,py⟩:=atp.get ht';obtain ⟨pa,pl,pas,q1,q2,q3,q4⟩:=(py.keep (Z7 (ec7 _ ec5) kb9)).keep ca4;obtain ⟨c',xl',cs',bs',f1,f2,f3,f4,f5⟩:=cx8.keep (Z7 ec5 kb9);have s79:=s8;have e1:=(W6 f1).2;have hc9:H9 c=some (.lst (cs.map V.ref)):=(W6 ((Z7 ec5 kb9) _ _ (L5 s8 _ _ g2))).2
         have g3':m9 (O3 H9 (L::zs)) cs x.1:=t6 g3 fun b _ u e=>(Z7 ec5 kb9) _ _ (L5 s8 _ _ e)
         have lcs:cs.length<=40:=by rw[g3.1,b3];omega
         have th9:V3 H9 (L::zs):=fun z hz=>by
           rcases ee0.mp hz with rfl|hz
           · exact ⟨_,h9L⟩
           · by_cases e:z=L
             · rw[e];exact ⟨_,h9L⟩
             · obtain ⟨u,hu⟩:=(th7.keep s8) z (ec7 _ hz);exact ⟨u,kb9 _ _ hu e⟩
         have hnx:(nxC x)[k]? =some (x.1++[y.1],y.2):=by
           unfold nxC;rw[ec1,hy];rfl
         have lus:us.length<=2000:=by
           rw[at9.1];refine ed3 ?_ few1;show _<=((C0 (r0::rs') i).flatMap nxC).length
           have ex:C0 (r0::rs') i=(C0 (r0::rs') i).take j++x::(C0 (r0::rs') i).drop (j+1):=by
             have jl:=(eb9.mp hx).1;have e3:=(eb9.mp hx).2;rw[<-e3,<-el5 jl,ei8]
           have e4:=congrArg (fun z=>(z.flatMap nxC).length) ex;simp only[el6,eh1,ec6] at e4;rw[e4,ec6,ee1];omega
         refine ⟨t',_,rfl,Q0.of (W6 q1).2,rfl,_,_,rfl,_,_,rfl,rfl,?_⟩;refine ⟨_,rfl,.inl ⟨rfl,_,g9.of h9L⟩,_,rfl,_,rfl,(show 1<=sizeLine by decide),fun e he=> ?_⟩;have s10:e7 H9 (c9 H9 e (.lst [V.ref pa])):=e7.upd_new he;have h10e:(c9 H9 e (.lst [V.ref pa])) e=some (.lst [V.ref pa]):=c8;generalize (c9 H9 e (.lst [V.ref pa]))=H10 at s10 h10e ⊢;refine ⟨c,e,_,_,rfl,rfl,s10 _ _ hc9,h10e,ei1 (t5 (by simp only[eb7,eq4];omega)),fun d hd=> ?_⟩;rw[show cs.map V.ref++[V.ref pa]=(cs++[pa]).map V.ref by rw[ec4];rfl];have s11:e7 H10 (c9 H10 d (.lst ((cs++[pa]).map V.ref))):=e7.upd_new hd;have h11d:(c9 H10 d (.lst ((cs++[pa]).map V.ref))) d=some (.lst ((cs++[pa]).map V.ref)):=c8;generalize (c9 H10 d (.lst ((cs++[pa]).map V.ref)))=H11 at s11 h11d ⊢;refine ⟨_,rfl,(show 2<=sizeLine by decide),fun t2 ht2=> ?_⟩;have s12:e7 H11 (c9 H11 t2 (.tup [.ref d,.ref pl])):=e7.upd_new ht2;have h12t:(c9 H11 t2 (.tup [.ref d,.ref pl])) t2=some (.tup [.ref d,.ref pl]):=c8;generalize (c9 H11 t2 (.tup [.ref d,.ref pl]))=H12 at s12 h12t ⊢;have s911:=s10.trans s11;have s912:=s911.trans s12;have nd:d∉L::zs:=(th9.keep s10).out hd;have nt2:t2∉L::zs:=(th9.keep s911).out ht2;refine ⟨L,_,_,rfl,rfl,s912 _ _ h9L,ee5 (show _<=2000 by rw[eb7];omega) (by decide),?_⟩;rw[show us.map V.ref++[V.ref t2]=(us++[t2]).map V.ref by rw[ec4];rfl];refine ⟨us++[t2],_,_,rfl,c8,?_,(kb9.trans (s912.but L)).upd_a⟩;rw[bn4 ec5,j8 hnx,<-ed9];refine M5.snoc (at9.imp fun t x _ h=>h.keep (L5 s912)) ?_;refine ⟨d,pl,cs++[pa],pas,by rw[P3 nt2];exact h12t,by rw[P3 nd];exact s12 _ _ h11d,?_,L5 s912 _ _ q3,t6 q4 fun b _ u e=>L5 s912 _ _ e⟩;exact O2 (t6 g3' fun b _ u e=>L5 s912 _ _ e) (L5 s912 _ _ q2)
       · rintro σ H9 ⟨us,v7,v8,rfl,h9L,at9,kb9⟩;refine ⟨us,_,_,v7,v8,rfl,h9L,?_,kb7.trans ((s8.but L).trans kb9)⟩;rw[j8 hx,el6,eh1,en1,ee3];rw[eb7,lenP,show (L6 x.2 x.2.length).length=(nxC x).length by unfold nxC;rw[eb7],ef3] at at9;exact at9
     · rintro σ H7 ⟨us,v5,v6,v7,v8,rfl,h7L,atu,kb7⟩;rw[eb7,ats.1,ef3] at atu;exact ⟨_,rfl,L,us,_,_,_,_,_,_,rfl,h7L,atu.imp fun t x _ h=>h.keep ca4,(s05.trans s6).kb kb7 hL0,hL0⟩
   · rintro σ H5 ⟨F,ts,v3,v4,v5,v6,v7,v8,rfl,h5F,ats,s05,hF⟩;exact ⟨_,rfl,q F ts H5 hF s05 h5F ats⟩
end
end My
namespace My
open PySem L2 Mth
section
variable {P:Program} {w:World} {K:PySem.W.Frag} {mg:Str->Option Value} {base:Heap}
def R9 (es:List (Int×Int)):List (w6×V):=es.map fun e=>((Sum.inl e.1:w6),V.int e.2)
def K4 (rs:List Int):List (Int×Int):=(ef4 rs.length).map fun j=>(rs.getD j 0,rs.getD ((j+1)%rs.length) 0)
theorem di9 {es:List (Int×Int)}{k v:Int}(h:k∉es.map (·.1)):R4 (R9 es) (Sum.inl k:w6) (.int v)=R9 (es++[(k,v)]):=by
 have ki:KI (R9 es) (es.map (·.1)):=by unfold KI R9;rw[eh3,eh3];rfl
 rw[aq6 _ (bl6 ki h)];unfold R9;rw[ec4];rfl
def bb8:Sp:=fun vs H Q _=>∃(d r:Addr) (es:List (Int×Int)) (rs:List Int),vs=[.ref d,.ref r,.int 1]/\H d=some (.dK (R9 es))/\H r=some (.lst (rs.map V.int))/\rs.Nodup/\(∀x∈rs,x∉es.map (·.1))/\es.length<=400/\rs.length<=400/\∀(H':Hp),H' d=some (.dK (R9 (es++K4 rs)))->j5 d H H'->Q .non H'
theorem ag2:m8 ["target","ring","steps","place","thing"] ["target","ring","steps"] (j6 W3):=⟨rfl,rfl,rfl,by decide+kernel,rfl,by decide+kernel,by decide+kernel⟩
theorem bt2 {f:Addr}{fd:FuncData}(F:E7 K "send_along" "send_along" W3 f fd)(B:Bl mg):o8 P w K mg base G2 1 f fd ["target","ring","steps"] bb8:=by
 refine F.ok ag2 (fun vs H Q E h=> ?_) (fun cdv A outer s H vs Q E hr h=> ?_)
 · obtain ⟨d,r,es,rs,rfl,hd,hrr,nd,dis,le,lr,q⟩:=h;rfl
 · obtain ⟨d,r,es,rs,rfl,hd,hrr,nd,dis,le,lr,q⟩:=h;have hu:=Q3 hr;refine ⟨_,@e8 _ _ _ (@o9 _ _ _ _ _ _ _ _ PassesOwn.never rfl (@ao5 _ _ _ _ _ _ _ _ B.enum (@c5 _ _ _ _ _ (pv 1) (@c6 _) (by rfl)) (by rfl) (by rfl)) (@Y2 _ _ _ _ _ _ rfl (@C5 _ _ _ _ _ (@i8 _ _ (3) _ ag2.nd rfl (Or.inl rfl) (by trivial)) (@C5 _ _ _ _ _ (@i8 _ _ (4) _ ag2.nd rfl (Or.inl rfl) (by trivial)) (@U5 _) (by rfl)) (by rfl)) (by rfl) (by rfl)) (@e8 _ _ _ (@ao2 _ _ _ _ _ _ _ _ _ hu (pv 0) (pv 4) (@J2 _ _ _ _ _ _ _ B9 (pv 1) (@i7 _ _ _ _ _ _ _ _ E4 (@i7 _ _ _ _ _ _ _ _ E3 (pv 3) (pv 2)) (@A0 _ _ _ _ _ B.len (@c5 _ _ _ _ _ (pv 1) (@c6 _) (by rfl)) (by rfl) (by rfl))) (fun _ _=>rfl)) rfl)) (by intro _;rfl)),?_⟩
   try dsimp only[y7,Cx.nox,Cx.wish]
   have nrd:r≠d:=fun z=>by rw[z,hd] at hrr;cases hrr
   refine ⟨_,rfl,r,rfl,⟨_,g9.of hrr⟩,ai5 (K:=K) (a:=r) (xs:=rs.map V.int) (fun i σ H2=>∃(v3 v4:Option V),σ=[some (.ref d),some (.ref r),some (.int 1),v3,v4]/\H2 d=some (.dK (R9 (es++(K4 rs).take i)))/\j5 d H H2)
     ⟨none,none,rfl,by rw[eo4,ee3];exact hd,j5.refl _ _⟩ (fun i σ H2 _ ⟨_,_,_,_,k⟩=>g9.of (k _ _ hrr nrd)) ?_ ?_⟩
   · rintro i y σ H2 tt hi ⟨v3,v4,rfl,h2d,kb⟩ htt;obtain ⟨z,hz,rfl⟩:=R1 hi;have hil:i < rs.length:=(eb9.mp hz).1;have h2r:=kb r _ hrr nrd;have s3:e7 H2 (c9 H2 tt (.tup [.int (i:Int),.int z])):=e7.upd_new htt;have h3t:(c9 H2 tt (.tup [.int (i:Int),.int z])) tt=some (.tup [.int (i:Int),.int z]):=c8;generalize (c9 H2 tt (.tup [.int (i:Int),.int z]))=H3 at s3 h3t ⊢;refine ⟨tt,_,rfl,Q0.of h3t,rfl,_,_,rfl,_,_,rfl,rfl,?_⟩;have h3r:=s3 _ _ h2r
     have em:((i:Int)+1)%(rs.length:Int)=(((i+1)%rs.length:Nat):Int):=by rw[em1];rfl
     have ml:(i+1)%rs.length < rs.length:=ei3 _ (by omega);refine ⟨_,rfl,_,rfl,_,rfl,_,_,rfl,rfl,_,rfl,r,_,rfl,.inl (g9.of h3r),_,_,rfl,rfl,by rw[eb7];omega,r,_,_,_,rfl,rfl,g9.of h3r,(show V7 _ _=some (.int (rs.getD ((i+1)%rs.length) 0)) from ?_),?_⟩
     · rw[eb7,em];refine C4 ?_;rw[ec1,eb8 ml,ec3,eb8 ml];rfl
     have lse:(K4 rs).length=rs.length:=by unfold K4;rw[eb7,ee9]
     have hse:(K4 rs)[i]? =some (z,rs.getD ((i+1)%rs.length) 0):=by
       unfold K4;rw[ec1,eg8 hil];show some (rs.getD i 0,rs.getD ((i+1)%rs.length) 0)=_;rw[show rs.getD i 0=z by rw[ec3,hz];rfl]
     have nz:z∉(es++(K4 rs).take i).map (·.1):=by
       rw[ec4];intro hz2
       rcases ed0.mp hz2 with w|w
       · exact dis z (ec8 hz) w
       · obtain ⟨e,he,ee⟩:=ed2.mp w;obtain ⟨j,hj⟩:=ef8.mp he;rw[es7] at hj
         by_cases c:j < i
         · rw[if_pos c] at hj;unfold K4 at hj;rw[ec1,eg8 (by omega)] at hj;cases hj
           have e2:rs[j]? =some z:=by
             rw[eb8 (by omega)];have ee:rs.getD j 0=z:=ee;rw[ec3,eb8 (by omega)] at ee;exact congrArg some ee
           have:=Q4 nd (i:=j) (j:=i) (by omega) hil (by omega);rw[ec3,ec3,e2,hz] at this;exact this rfl
         · rw[if_neg c] at hj;cases hj
     have lk:(R9 (es++(K4 rs).take i)).length<=900:=by
       unfold R9;rw[eb7,ec6,ee1,lse];omega
     refine ⟨_,rfl,_,rfl,d,_,rfl,ar0.k (k:=Sum.inl z) (s3 _ _ h2d) (t5 (by omega)),?_⟩;rw[di9 nz];refine ⟨_,_,rfl,?_,(kb.trans (s3.but d)).upd_a⟩;rw[c8,j8 hse,<-ed9]
   · rintro σ H2 ⟨v3,v4,rfl,h2d,kb⟩
     have lse:(K4 rs).length=rs.length:=by unfold K4;rw[eb7,ee9]
     rw[eb7,<-lse,ef3] at h2d;exact q H2 h2d kb
end
end My
namespace My
open PySem L2 Mth
section
theorem ca6 (r:List Int)(b:Nat):(r.drop b++r.take b).Perm r:=ek6.trans (by rw[ei8])
theorem br3 {rs:List (List Int)}:∀(i:Nat) {y:List Int×List (List Int)},i<=rs.length->y∈L6 rs i->(y.1++y.2.flatten).Perm rs.flatten/\y.2.length+1=rs.length/\∃r∈rs,y.1.Perm r
 |0,y,_,h=>by cases h
 |i+1,y,hi,h=>by
  rcases ed0.mp h with z|z
  · exact br3 i (by omega) z
  · obtain ⟨b,_,rfl⟩:=ed2.mp z
    have il:i < rs.length:=by omega
    have eg:rs.getD i []=rs[i]:=by rw[ec3,eb8 il];rfl
    refine ⟨?_,?_,rs[i],ef2 _,?_⟩
    · show (((rs.getD i []).drop b++(rs.getD i []).take b)++(rs.take i++rs.drop (i+1)).flatten).Perm rs.flatten
      have e:rs.flatten=(rs.take i).flatten++(rs[i]++(rs.drop (i+1)).flatten):=by
        rw[<-eg7,<-ej0,<-el5 il,ei8]
      rw[e,eg,ej0];refine ((ca6 _ b).append_right _).trans ?_;rw[<-ed9,<-ed9];exact ek6.append_right _
    · show (rs.take i++rs.drop (i+1)).length+1=_;rw[ec6,ee1,eg1];omega
    · show ((rs.getD i []).drop b++(rs.getD i []).take b).Perm _;rw[eg];exact ca6 _ b
structure dj0 (l:Nat)(rs:List (List Int))(k:Nat)(x:List (List Int)×List (List Int)):Prop where
 perm:(x.1.flatten++x.2.flatten).Perm rs.flatten
 len:x.1.length=k+1
 left:x.2.length+(k+1)=rs.length
 rows:∀r∈x.1,r.length=l
 rows2:∀r∈x.2,r∈rs
theorem L8 {l:Nat}{rs:List (List Int)}(hl:∀r∈rs,r.length=l):∀(k:Nat) {x:List (List Int)×List (List Int)},k < rs.length->x∈C0 rs k->dj0 l rs k x
 |0,x,hk,h=>by
  rw[ec9.mp h]
  cases rs with
  |nil=>simp at hk
  |cons r rs=>
   refine ⟨?_,rfl,rfl,fun r' hr=> ?_,fun r' hr=>ec7 _ hr⟩
   · show ([r].flatten++rs.flatten).Perm (r::rs).flatten;simp
   · rw[ec9.mp hr];exact hl r ec5
 |k+1,x,hk,h=>by
  obtain ⟨x',h',z⟩:=ei4.mp h;obtain ⟨y,hy,rfl⟩:=ed2.mp z;have o:=L8 hl k (by omega) h';obtain ⟨p1,p2,r,hr,p3⟩:=br3 _ (ec0 _) hy;refine ⟨?_,?_,?_,fun r' hr'=> ?_,fun r' hr'=>o.rows2 r' ((bg0 _ hy).2 r' hr')⟩
  · show ((x'.1++[y.1]).flatten++y.2.flatten).Perm _;rw[ej0,ej3,ed9];exact (p1.append_left _).trans o.perm
  · show (x'.1++[y.1]).length=_;rw[ec6,o.len];rfl
  · show y.2.length+(k+1+1)=_;have:=o.left;omega
  · rcases ed0.mp hr' with w|w
    · exact o.rows r' w
    · rw[ec9.mp w,p3.length_eq];exact hl r (o.rows2 r hr)
theorem br4 {l:Nat}{rs:List (List Int)}(hl:∀r∈rs,r.length=l):∀i,i<=rs.length->(L6 rs i).length=i*l
 |0,_=>by rw[eh4];rfl
 |i+1,hi=>by
  show (L6 rs i++af2 rs i (rs.getD i [])).length=_;rw[ec6,br4 hl i (by omega)];unfold af2;rw[eb7,ee9,ec3,eb8 (show i < rs.length by omega)];show i*l+(rs[i]).length=_;rw[hl _ (ef2 _),en8,ev8]
theorem ak2 {α β:Type}{f:α->List β}{c:Nat}:∀{xs:List α},(∀x∈xs,(f x).length=c)->(xs.flatMap f).length=xs.length*c
 |[],_=>by rw[eu5,eh4];rfl
 |x::xs,h=>by
  rw[eh1,ec6,h x ec5,ak2 fun y hy=>h y (ec7 _ hy),eg9,en8,ev8,ej4]
theorem au9 {l:Nat}{rs:List (List Int)}(hl:∀r∈rs,r.length=l):∀k,k < rs.length->(C0 rs k).length=x6 rs.length l k
 |0,_=>rfl
 |k+1,hk=>by
  show ((C0 rs k).flatMap nxC).length=x6 rs.length l k*(rs.length - (k+1))*l;rw[ak2 (c:=(rs.length - (k+1))*l) fun x hx=> ?_,au9 hl k (by omega),ej2];have o:=L8 hl k (by omega) hx;unfold nxC;rw[eb7,br4 (fun r hr=>hl r (o.rows2 r hr)) _ (ec0 _)];have:=o.left;rw[show x.2.length=rs.length - (k+1) by omega]
open Classical in
noncomputable def J7 (l m:Nat)(Rs:List (List Int)):List Int:=if h:∃J,K8 l (m/Rs.length) Rs J then Classical.choose h else []
theorem bg1 {l m k:Nat}{Rs:List (List Int)}{J:List Int}(l0:0 < l)(r0:1<=Rs.length)(em:m=Rs.length*k)(c:ef6 l k=1)(h:K8 l k Rs J):J7 l m Rs=J:=by
 have ek:m/Rs.length=k:=by rw[em];exact ek8 k r0
 have ex:∃J,K8 l (m/Rs.length) Rs J:=⟨J,by rw[ek];exact h⟩;unfold J7;rw[dif_pos ex];exact K8.uniq l0 (by rw[ek];exact c) (Classical.choose_spec ex) (by rw[ek];exact h)
noncomputable def U3 (l m:Nat)(w:List (List (List Int))):List (Int×Int):=w.flatMap fun c=>K4 (J7 l m c)
theorem ca7 (l m:Nat)(w:List (List (List Int)))(c:List (List Int)):U3 l m (w++[c])=U3 l m w++K4 (J7 l m c):=by
 unfold U3;rw[el6,eh1,en1,ee3]
def X7 (f:List (List Int)->List (List (List (List Int))))(rs:List (List Int))(d:Nat):List (List (List (List Int))):=if d<=rs.length then (C0 rs (d - 1)).flatMap fun x=>(f x.2).map fun w=>w++[x.1] else []
def G9 (ds:List Nat):Nat->List (List Int)->List (List (List (List Int)))
 |0,_=>[[]]
 |f+1,rs=>if rs.length=0 then [[]] else ds.flatMap (X7 (G9 ds f) rs)
theorem av0 (J:List Int):(K4 J).map (·.1)=J:=by
 unfold K4;rw[eh3]
 refine eg4 fun i=> ?_
 rw[ec1]
 by_cases h:i < J.length
 · rw[eg8 h,eb8 h];show some (J.getD i 0)=_;rw[ec3,eb8 h];rfl
 · rw[ed1 (by rw[ee9];omega),ed1 (by omega)];rfl
def S0 (l m d:Nat):Prop:=1<=d/\ef6 (d*l) m=d
theorem S0.parts {l m d:Nat}(h:S0 l m d)(m1:1<=m):∃k,m=d*k/\ef6 l k=1:=by
 obtain ⟨d1,e⟩:=h
 have dm:d∣m:=by
   have:=eo8 (d*l) m;rw[e] at this;exact this
 obtain ⟨k,rfl⟩:=dm;refine ⟨k,rfl,?_⟩;rw[ex5] at e
 have:d*ef6 l k=d*1:=by rw[e,ek7]
 exact en0 d1 this
theorem da5 {l m:Nat}{Rs:List (List Int)}(l0:0 < l)(m1:1<=m)(h:S0 l m Rs.length){J:List Int}{k:Nat}(ek:m=Rs.length*k)(j:K8 l k Rs J):J7 l m Rs=J/\J.Perm Rs.flatten:=by
 obtain ⟨k',e1,e2⟩:=h.parts m1;have:k'=k:=en0 h.1 (by rw[<-e1,<-ek]);subst this;exact ⟨bg1 l0 h.1 ek e2 j,j.perm l0 e2⟩
structure du9 (l m:Nat)(ds:List Nat)(rs:List (List Int))(w:List (List (List Int))):Prop where
 perm:(w.map eq9).flatten.Perm rs.flatten
 right:∀c∈w,c.length∈ds/\∀r∈c,r.length=l
theorem bj8 {l m:Nat}{ds:List Nat}(hd:∀d∈ds,1<=d):∀(f:Nat) {rs:List (List Int)} {w:List (List (List Int))},rs.length<=f->(∀r∈rs,r.length=l)->w∈G9 ds f rs->du9 l m ds rs w
 |0,rs,w,hf,hl,h=>by
  have e:rs=[]:=ej9.mp (by omega);rw[ec9.mp h,e];exact ⟨List.Perm.refl _,fun c hc=>by cases hc⟩
 |f+1,rs,w,hf,hl,h=>by
  unfold G9 at h
  by_cases c:rs.length=0
  · rw[if_pos c] at h;have e:rs=[]:=ej9.mp c;rw[ec9.mp h,e];exact ⟨List.Perm.refl _,fun c hc=>by cases hc⟩
  · rw[if_neg c] at h;obtain ⟨d,hdm,h⟩:=ei4.mp h;unfold X7 at h
    by_cases c2:d<=rs.length
    · rw[if_pos c2] at h;obtain ⟨x,hx,h⟩:=ei4.mp h;obtain ⟨w',hw',rfl⟩:=ed2.mp h;have d1:=hd d hdm;have o:=L8 hl (d - 1) (by omega) hx;have i:=bj8 (m:=m) hd f (rs:=x.2) (w:=w') (by have:=o.left;omega) (fun r hr=>hl r (o.rows2 r hr)) hw';refine ⟨?_,fun c hc=> ?_⟩
      · rw[ec4,ej0];show ((w'.map eq9).flatten++[x.1.flatten].flatten).Perm _;rw[ej3];exact (ek6.trans (i.perm.append_left _)).trans o.perm
      · rcases ed0.mp hc with z|z
        · exact i.right c z
        · rw[ec9.mp z];exact ⟨by rw[o.len,en3 d1];exact hdm,o.rows⟩
    · rw[if_neg c2] at h;cases h
end
end My
namespace My
open PySem L2 Mth
section
variable {P:Program} {w:World} {K:PySem.W.Frag} {mg:Str->Option Value} {base:Heap}
def Few (ds:List Nat):Nat->List (List Int)->Prop
 |0,_=>True
 |f+1,rs=>(∀d∈ds,d<=rs.length->(∀k,k < d->(C0 rs k).length<=2000)/\∀x∈C0 rs (d - 1),Few ds f x.2)/\(G9 ds (f+1) rs).length<=2000
def bb9 (l m:Nat)(H:Hp)(u:Addr)(w:List (List (List Int))):Prop:=H u=some (.dK (R9 (U3 l m w)))
def ay9 (f:Nat):Sp:=fun vs H Q _=>∃(l:Addr) (as:List Addr) (rs:List (List Int)) (ra:Addr) (ds:List Nat) (len m:Nat),vs=[.ref l,.ref ra,.int (m:Int)]/\H l=some (.lst (as.map V.ref))/\m9 H as rs/\H ra=some (.lst ((G3 ds).map V.int))/\rs.length<=f/\(∀r∈rs,r.length=len)/\0 < len/\rs.length*len<=40/\rs.flatten.Nodup/\1<=m/\(∀d∈ds,S0 len m d)/\Few ds f rs/\
 ∀(o:Addr) (us:List Addr) (H':Hp),H o=none->e7 H H'->H' o=some (.lst (us.map V.ref))->us.Nodup->(∀u∈us,H u=none)->M5 (bb9 len m H') us (G9 ds f rs)->Q (.ref o) H'
theorem W7 {l:Nat}{rs:List (List Int)}(h:∀r∈rs,r.length=l):rs.flatten.length=rs.length*l:=by
 rw[show rs.flatten=rs.flatMap id by rw[List.flatMap_id]];exact ak2 h
theorem br5 {l m:Nat}{c:List (List Int)}(l0:0 < l)(m1:1<=m)(h:S0 l m c.length):(∀x∈J7 l m c,x∈c.flatten)/\(J7 l m c).length<=c.flatten.length:=by
 unfold J7
 by_cases ex:∃J,K8 l (m/c.length) c J
 · rw[dif_pos ex];obtain ⟨k,e1,e2⟩:=h.parts m1
   have ek:m/c.length=k:=by rw[e1];exact ek8 k h.1
   have pm:=(Classical.choose_spec ex).perm l0 (by rw[ek];exact e2);exact ⟨fun x hx=>pm.mem_iff.mp hx,eq8 pm.length_eq⟩
 · rw[dif_neg ex];exact ⟨(fun x hx=>by cases hx),ed7 _⟩
theorem ak3 {l m:Nat}(l0:0 < l)(m1:1<=m):∀(w:List (List (List Int))),(∀c∈w,S0 l m c.length)->(∀x∈(U3 l m w).map (·.1),x∈(w.map eq9).flatten)/\(U3 l m w).length<=(w.map eq9).flatten.length
 |[],_=>⟨(fun x hx=>by cases hx),ec0 _⟩
 |c::w,h=>by
  obtain ⟨a,b⟩:=ak3 l0 m1 w fun c hc=>h c (ec7 _ hc)
  obtain ⟨a2,b2⟩:=br5 l0 m1 (h c ec5)
  have e:U3 l m (c::w)=K4 (J7 l m c)++U3 l m w:=by unfold U3;rw[eh1]
  rw[e,eg6,eg7,ec4,av0,ec6,ec6];refine ⟨fun x hx=> ?_,?_⟩
  · rcases ed0.mp hx with z|z
    · exact ef7 _ (a2 x z)
    · exact ed8 _ (a x z)
  · have:(K4 (J7 l m c)).length=(J7 l m c).length:=by unfold K4;rw[eb7,ee9]
    omega
theorem bn6 {α β:Type}{f:α->List β}{xs:List α}{i:Nat}{x:α}(h:xs[i]? =some x):((xs.take i).flatMap f).length+(f x).length<=(xs.flatMap f).length:=by
 have jl:=(eb9.mp h).1;have e3:=(eb9.mp h).2
 have ex:xs=xs.take i++x::xs.drop (i+1):=by rw[<-e3,<-el5 jl,ei8]
 have e4:=congrArg (fun z=>(z.flatMap f).length) ex;simp only[el6,eh1,ec6] at e4;omega
theorem ch3 {H:Hp}{e l:Addr}(he:H e=none)(hl:(c9 H e (.dK [])) l=none)(len m:Nat):H l=none/\e7 H (c9 (c9 H e (.dK [])) l (.lst [V.ref e]))/\M5 (bb9 len m (c9 (c9 H e (.dK [])) l (.lst [V.ref e]))) [e] [[]]:=by
 have n:l≠e:=fun z=>by rw[z,c8] at hl;cases hl
 have hl0:H l=none:=by rw[g6 n] at hl;exact hl
 refine ⟨hl0,(e7.upd_new he).upd_r hl0,rfl,fun j t x e1 e2=> ?_⟩
 rcases j with _|j
 · cases e1;cases e2;show (c9 (c9 H e (.dK [])) l (.lst [V.ref e])) e=_;rw[g6 n.symm,c8];rfl
 · cases e1
theorem y6:m8 ["rings","right","m","ways","part","chain","left","joined","way"] ["rings","right","m"] (j6 X4):=⟨rfl,rfl,rfl,by decide+kernel,rfl,by decide+kernel,by decide+kernel⟩
theorem bj9 {f:Addr}{fd:FuncData}(F:E7 K "ways_to_join" "ways_to_join" X4 f fd)(B:Bl mg)(c_chains_of:o5 P w K mg base "chains_of" 2 ["rings","part"] au8)(c_join_rings:o5 P w K mg base "join_rings" 1 ["rings","m"] bj4)(c_send_along:o5 P w K mg base "send_along" 1 ["target","ring","steps"] (ck5 bj3 bb8)):o8 P w K mg base G2 3 f fd ["rings","right","m"] (ay9 0):=by
 refine F.ok y6 (fun vs H Q E h=> ?_) (fun cdv A outer s H vs Q E hr h=> ?_)
 · obtain ⟨l,as,rs,ra,ds,len,m,rfl,hl,rows,hra,lf,hlen,len0,l40,nd,m1,rt,few,q⟩:=h;rfl
 · obtain ⟨l,as,rs,ra,ds,len,m,rfl,hl,rows,hra,lf,hlen,len0,l40,nd,m1,rt,few,q⟩:=h;have hr_chains_of:n6 2 _:=hr.mono (by decide);have hr_join_rings:n6 1 _:=hr.mono (by decide);have hr_send_along:n6 1 _:=hr.mono (by decide);refine ⟨_,@c7 _ _ _ _ _ (@B5 _ _ _ _ _ _ _ _ (@m7 _ _ _ _ _ _ _ _ V1 (@A0 _ _ _ _ _ B.len (@c5 _ _ _ _ _ (pv 0) (@c6 _) (by rfl)) (by rfl) (by rfl)) (@g8 _ _ _ _) (n0 _)) (@e8 _ _ _ (@j9 _ _ _ _ (@o6 _ _ _ _ (@c5 _ _ _ _ _ (@Z0 _ _) (@c6 _) (by rfl))))) (@r6 _)) (@c7 _ _ _ _ _ (@i6 _ _ (3) _ _ _ _ y6.nd rfl (Or.inl rfl) (@o6 _ _ _ _ (@c6 _)) (by rfl) (by trivial)) (@c7 _ _ _ _ _ (@o9 _ _ _ _ _ _ _ _ PassesOwn.never rfl (@E2 _ _ _ _ (pv 1)) (@i8 _ _ (4) _ y6.nd rfl (Or.inl rfl) (by trivial)) (@e8 _ _ _ (@B5 _ _ _ _ _ _ _ _ (@m7 _ _ _ _ _ _ _ _ ci8 (pv 4) (@A0 _ _ _ _ _ B.len (@c5 _ _ _ _ _ (pv 0) (@c6 _) (by rfl)) (by rfl) (by rfl)) (n0 _)) (@e8 _ _ _ (@o9 _ _ _ _ _ _ _ _ PassesOwn.never rfl (@E2 _ _ _ _ (@j7 _ _ _ _ _ _ _ _ _ _ c_chains_of hr_chains_of (@c5 _ _ _ _ _ (pv 0) (@c5 _ _ _ _ _ (pv 4) (@c6 _) (by rfl)) (by rfl)) (by rfl) (by decide) (by rfl) (by rfl))) (@Y2 _ _ _ _ _ _ rfl (@C5 _ _ _ _ _ (@i8 _ _ (5) _ y6.nd rfl (Or.inl rfl) (by trivial)) (@C5 _ _ _ _ _ (@i8 _ _ (6) _ y6.nd rfl (Or.inl rfl) (by trivial)) (@U5 _) (by rfl)) (by rfl)) (by rfl) (by rfl)) (@c7 _ _ _ _ _ (@i6 _ _ (7) _ _ _ _ y6.nd rfl (Or.inl rfl) (@j7 _ _ _ _ _ _ _ _ _ _ c_join_rings hr_join_rings (@c5 _ _ _ _ _ (pv 5) (@c5 _ _ _ _ _ (pv 2) (@c6 _) (by rfl)) (by rfl)) (by rfl) (by decide) (by rfl) (by rfl)) (by rfl) (by trivial)) (@e8 _ _ _ (@o9 _ _ _ _ _ _ _ _ PassesOwn.never rfl (@E2 _ _ _ _ (@cy9 _ _)) (@i8 _ _ (8) _ y6.nd rfl (Or.inl rfl) (by trivial)) (@c7 _ _ _ _ _ (@C3 _ _ _ _ (@j7 _ _ _ _ _ _ _ _ _ _ c_send_along hr_send_along (@c5 _ _ _ _ _ (pv 8) (@c5 _ _ _ _ _ (pv 7) (@c5 _ _ _ _ _ (@g8 _ _ _ _) (@c6 _) (by rfl)) (by rfl)) (by rfl)) (by rfl) (by decide) (by rfl) (by rfl)) (by rfl)) (@e8 _ _ _ (@C3 _ _ _ _ (@C7 _ _ _ _ _ _ _ (pv 3) (@c5 _ _ _ _ _ (pv 8) (@c6 _) (by rfl)) (by rfl) (by rfl) (by rfl) (by rfl) (by rfl)) (by rfl)))) (by intro _;rfl)))) (by intro _;rfl))) (@r6 _))) (by intro _;rfl)) (@e8 _ _ _ (@j9 _ _ _ _ (pv 3))))),?_⟩;refine bb7 ?_;intros
   try dsimp only[y7,Cx.nox,Cx.wish]
   refine ⟨_,rfl,l,_,rfl,.inl (g9.of hl),rfl,_,rfl,?_⟩;rw[eb7,rows.1,show rs.length=0 by omega];refine ab0 (fun _=> ?_) (fun h=>absurd (decide_eq_true rfl) h)
   refine fun e he=>⟨(show 1<=sizeLine by decide),fun o ho=> ?_⟩
   obtain ⟨a1,a2,a3⟩:=ch3 he ho len m;exact q o [e] _ a1 a2 c8 (by simp) (fun b hb=>by rw[ec9.mp hb];exact he) a3
theorem i5 {d k:Nat}{f:Addr}{fd:FuncData}(F:E7 K "ways_to_join" "ways_to_join" X4 f fd)(B:Bl mg)(c_chains_of:o5 P w K mg base "chains_of" 2 ["rings","part"] au8)(c_join_rings:o5 P w K mg base "join_rings" 1 ["rings","m"] bj4)(c_ways_to_join:o5 P w K mg base "ways_to_join" (k+3) ["rings","right","m"] (ay9 d))(c_send_along:o5 P w K mg base "send_along" 1 ["target","ring","steps"] (ck5 bj3 bb8)):o8 P w K mg base G2 (k+3+1) f fd ["rings","right","m"] (ay9 (d+1)):=by
 refine F.ok y6 (fun vs H Q E h=> ?_) (fun cdv A outer s H vs Q E hr h=> ?_)
 · obtain ⟨l,as,rs,ra,ds,len,m,rfl,hl,rows,hra,lf,hlen,len0,l40,nd,m1,rt,few,q⟩:=h;rfl
 · obtain ⟨l,as,rs,ra,ds,len,m,rfl,hl,rows,hra,lf,hlen,len0,l40,nd,m1,rt,few,q⟩:=h;have hr_chains_of:n6 2 _:=hr.mono (by omega);have hr_join_rings:n6 1 _:=hr.mono (by omega);have hr_ways_to_join:n6 (k+3) _:=hr.mono (by omega);have hr_send_along:n6 1 _:=hr.mono (by omega);refine ⟨_,@c7 _ _ _ _ _ (@B5 _ _ _ _ _ _ _ _ (@m7 _ _ _ _ _ _ _ _ V1 (@A0 _ _ _ _ _ B.len (@c5 _ _ _ _ _ (pv 0) (@c6 _) (by rfl)) (by rfl) (by rfl)) (@g8 _ _ _ _) (n0 _)) (@e8 _ _ _ (@j9 _ _ _ _ (@o6 _ _ _ _ (@c5 _ _ _ _ _ (@Z0 _ _) (@c6 _) (by rfl))))) (@r6 _)) (@c7 _ _ _ _ _ (@i6 _ _ (3) _ _ _ _ y6.nd rfl (Or.inl rfl) (@o6 _ _ _ _ (@c6 _)) (by rfl) (by trivial)) (@c7 _ _ _ _ _ (@o9 _ _ _ _ _ _ _ _ PassesOwn.never rfl (@E2 _ _ _ _ (pv 1)) (@i8 _ _ (4) _ y6.nd rfl (Or.inl rfl) (by trivial)) (@e8 _ _ _ (@B5 _ _ _ _ _ _ _ _ (@m7 _ _ _ _ _ _ _ _ ci8 (pv 4) (@A0 _ _ _ _ _ B.len (@c5 _ _ _ _ _ (pv 0) (@c6 _) (by rfl)) (by rfl) (by rfl)) (n0 _)) (@e8 _ _ _ (@o9 _ _ _ _ _ _ _ _ PassesOwn.never rfl (@E2 _ _ _ _ (@j7 _ _ _ _ _ _ _ _ _ _ c_chains_of hr_chains_of (@c5 _ _ _ _ _ (pv 0) (@c5 _ _ _ _ _ (pv 4) (@c6 _) (by rfl)) (by rfl)) (by rfl) (by decide) (by rfl) (by rfl))) (@Y2 _ _ _ _ _ _ rfl (@C5 _ _ _ _ _ (@i8 _ _ (5) _ y6.nd rfl (Or.inl rfl) (by trivial)) (@C5 _ _ _ _ _ (@i8 _ _ (6) _ y6.nd rfl (Or.inl rfl) (by trivial)) (@U5 _) (by rfl)) (by rfl)) (by rfl) (by rfl)) (@c7 _ _ _ _ _ (@i6 _ _ (7) _ _ _ _ y6.nd rfl (Or.inl rfl) (@j7 _ _ _ _ _ _ _ _ _ _ c_join_rings hr_join_rings (@c5 _ _ _ _ _ (pv 5) (@c5 _ _ _ _ _ (pv 2) (@c6 _) (by rfl)) (by rfl)) (by rfl) (by decide) (by rfl) (by rfl)) (by rfl) (by trivial)) (@e8 _ _ _ (@o9 _ _ _ _ _ _ _ _ PassesOwn.never rfl (@E2 _ _ _ _ (@j7 _ _ _ _ _ _ _ _ _ _ c_ways_to_join hr_ways_to_join (@c5 _ _ _ _ _ (pv 6) (@c5 _ _ _ _ _ (pv 1) (@c5 _ _ _ _ _ (pv 2) (@c6 _) (by rfl)) (by rfl)) (by rfl)) (by rfl) (by decide) (by rfl) (by rfl))) (@i8 _ _ (8) _ y6.nd rfl (Or.inl rfl) (by trivial)) (@c7 _ _ _ _ _ (@C3 _ _ _ _ (@j7 _ _ _ _ _ _ _ _ _ _ c_send_along hr_send_along (@c5 _ _ _ _ _ (pv 8) (@c5 _ _ _ _ _ (pv 7) (@c5 _ _ _ _ _ (@g8 _ _ _ _) (@c6 _) (by rfl)) (by rfl)) (by rfl)) (by rfl) (by decide) (by rfl) (by rfl)) (by rfl)) (@e8 _ _ _ (@C3 _ _ _ _ (@C7 _ _ _ _ _ _ _ (pv 3) (@c5 _ _ _ _ _ (pv 8) (@c6 _) (by rfl)) (by rfl) (by rfl) (by rfl) (by rfl) (by rfl)) (by rfl)))) (by intro _;rfl)))) (by intro _;rfl))) (@r6 _))) (by intro _;rfl)) (@e8 _ _ _ (@j9 _ _ _ _ (pv 3))))),?_⟩;refine bb7 ?_;intros
   try dsimp only[y7,Cx.nox,Cx.wish]
   refine ⟨_,rfl,l,_,rfl,.inl (g9.of hl),rfl,_,rfl,?_⟩;rw[eb7,rows.1]
   by_cases c0:rs.length=0
   · rw[c0];refine ab0 (fun _=> ?_) (fun h=>absurd (decide_eq_true rfl) h)
     refine fun e he=>⟨(show 1<=sizeLine by decide),fun o ho=> ?_⟩
     obtain ⟨a1,a2,a3⟩:=ch3 he ho len m;refine q o [e] _ a1 a2 c8 (by simp) (fun b hb=>by rw[ec9.mp hb];exact he) ?_;unfold G9;rw[if_pos c0];exact a3
   rw[decide_eq_false (fun z=>c0 (by have:=V.int.inj z;omega))];refine B6 ?_;refine ⟨ed7 _,fun W hW=> ?_⟩;have s1:e7 H (c9 H W (.lst [])):=e7.upd_new hW;have h1W:(c9 H W (.lst [])) W=some (.lst (([]:List Addr).map V.ref)):=c8;generalize (c9 H W (.lst []))=H1 at s1 h1W ⊢;have nlW:l≠W:=g7 hl hW;have nrW:ra≠W:=g7 hra hW
   have ewf:G9 ds (d+1) rs=ds.flatMap (X7 (G9 ds d) rs):=by
     show (if rs.length=0 then _ else _)=_;rw[if_neg c0]
   obtain ⟨few1,few2⟩:=few;rw[ewf] at few2
   have dsv:∀{i:Nat} {y:V},((G3 ds).map V.int)[i]? =some y->∃dd:Nat,ds[i]? =some dd/\y= .int (dd:Int):=fun {i y} h=>by
     unfold G3 at h;rw[ec1,ec1] at h
     cases e:ds[i]? with
     |none=>rw[e] at h;cases h
     |some a=>rw[e] at h;cases h;exact ⟨a,rfl,rfl⟩
   refine ⟨_,rfl,ra,rfl,⟨_,g9.of (s1 _ _ hra)⟩,K2 (K:=K) (a:=ra) (xs:=(G3 ds).map V.int) (fun i σ H2=>∃(us:List Addr) (v4 v5 v6 v7 v8:Option V),σ=[some (.ref l),some (.ref ra),some (.int (m:Int)),some (.ref W),v4,v5,v6,v7,v8]/\H2 W=some (.lst (us.map V.ref))/\us.Nodup/\(∀u∈us,H u=none)/\M5 (bb9 len m H2) us ((ds.take i).flatMap (X7 (G9 ds d) rs))/\e7 H H2)
     ⟨[],none,none,none,none,none,rfl,h1W,ei6,(fun u hu=>by cases hu),M5.nil,s1⟩ (fun i σ H2 _ ⟨_,_,_,_,_,_,_,_,_,_,_,k⟩=>g9.of (k _ _ hra)) ?_ ?_⟩
   · rintro i y σ H2 hi ⟨us0,v4,v5,v6,v7,v8,rfl,h2W,und0,ufr0,atu0,s02⟩;obtain ⟨dd,hdd,rfl⟩:=dsv hi;have ddm:=ec8 hdd;have rdd:=rt dd ddm;refine ⟨_,rfl,_,rfl,l,_,rfl,.inl (g9.of (s02 _ _ hl)),_,_,rfl,rfl,_,rfl,?_⟩;rw[eb7,rows.1];rw[j8 hdd,el6,eh1,en1,ee3]
     by_cases cd:dd<=rs.length
     · rw[decide_eq_true (show (dd:Int)<=(rs.length:Int) by omega)]
       have ewp:X7 (G9 ds d) rs dd=(C0 rs (dd - 1)).flatMap fun x=>(G9 ds d x.2).map fun w=>w++[x.1]:=if_pos cd
       have tot:=bn6 (f:=X7 (G9 ds d) rs) hdd;rw[ewp] at tot ⊢;obtain ⟨fewc,fewx⟩:=few1 dd ddm cd;have r40:rs.length<=40:=ed3 (ef9 _ len0) l40
       have row40:∀r∈rs,r.length<=40:=fun r hr=>by
         rw[hlen r hr];exact ed3 (eq1 _ (by omega)) l40
       obtain ⟨kk,emk,gk⟩:=rdd.parts m1;refine O8 ⟨_,rfl,_,rfl,l,as,rs,[W],dd,rfl,s02 _ _ hl,fun z=>nlW (ec9.mp z),t6 rows fun b _ u e=>by rw[P3 fun z=>(g7 e hW) (ec9.mp z)];exact s02 _ _ e,fun z hz=>by rw[ec9.mp hz];exact ⟨_,h2W⟩,by omega,r40,row40,rdd.1,by omega,fewc,fun F ts H3 hF s3 h3F atc=> ?_⟩;have nFW:F≠W:=(g7 h2W hF).symm
       refine ⟨F,rfl,⟨_,g9.of h3F⟩,K2 (K:=K) (a:=F) (xs:=ts.map V.ref) (fun j σ H4=>∃(us:List Addr) (v5 v6 v7 v8:Option V),σ=[some (.ref l),some (.ref ra),some (.int (m:Int)),some (.ref W),some (.int (dd:Int)),v5,v6,v7,v8]/\H4 W=some (.lst (us.map V.ref))/\us.Nodup/\(∀u∈us,H u=none)/\M5 (bb9 len m H4) us ((ds.take i).flatMap (X7 (G9 ds d) rs)++((C0 rs (dd - 1)).take j).flatMap fun x=>(G9 ds d x.2).map fun w=>w++[x.1])/\j5 W H3 H4)
         ⟨us0,v5,v6,v7,v8,rfl,s3 _ _ h2W,und0,ufr0,by rw[eo4,en1,ee3];exact atu0.imp fun u w _ h=>s3 _ _ h,j5.refl _ _⟩ (fun j σ H4 _ ⟨_,_,_,_,_,_,_,_,_,_,k⟩=>g9.of (k _ _ h3F nFW)) ?_ ?_⟩
       · rintro j y σ H4 hj ⟨us,v5,v6,v7,v8,rfl,h4W,und,ufr,atu,kb4⟩
         obtain ⟨t,ht,rfl⟩:∃t,ts[j]? =some t/\y=V.ref t:=by
           rw[ec1] at hj
           cases e:ts[j]? with
           |none=>rw[e] at hj;cases hj
           |some a=>rw[e] at hj;exact ⟨a,rfl,(Option.some.inj hj).symm⟩
         obtain ⟨x,hx,cx⟩:=atc.get ht;obtain ⟨c,xl,cs,bs,g1,g2,g3,g4,g5⟩:=(cx.keep (Z7 ec5 kb4)).keep (ca2 _ _);have xm:=ec8 hx;have ok:=L8 hlen (dd - 1) (by have:=rdd.1;omega) xm
         have x1l:x.1.length=dd:=by rw[ok.len];have:=rdd.1;omega
         have fewr:=fewx x xm;have s04:e7 H H4:=(s02.trans s3).kb kb4 hW;refine ⟨t,_,rfl,Q0.of g1,rfl,_,_,rfl,_,_,rfl,rfl,?_⟩;refine ⟨_,rfl,_,rfl,c,cs,x.1,len,kk,by rw[x1l,<-emk];rfl,g2,g3,by have:=rdd.1;omega,ok.rows,len0,by rw[x1l];exact ed3 (ek0 _ cd) l40,gk,fun jo J H5 hjo s5 h5J jis=> ?_⟩;obtain ⟨ej,pj⟩:=da5 len0 m1 (by rw[x1l];exact rdd) (by rw[x1l];exact emk) jis;have xnd:(x.1.flatten++x.2.flatten).Nodup:=ok.perm.nodup_iff.mpr nd;rw[eh0] at xnd
         have rl2:∀r∈x.2,r.length=len:=fun r hr=>hlen r (ok.rows2 r hr)
         have x2l:x.2.length<=d/\x.2.length<=rs.length:=by have:=ok.left;have:=rdd.1;omega
         have x240:x.2.length*len<=40:=ed3 (ek0 _ x2l.2) l40;refine ⟨_,rfl,_,rfl,_,rfl,xl,bs,x.2,ra,ds,len,m,rfl,s5 _ _ g4,t6 g5 fun b _ u e=>s5 _ _ e,s5 _ _ (s04 _ _ hra),x2l.1,rl2,len0,x240,xnd.2.1,m1,rt,fewr,fun o vs H6 ho s6 h6o vnd vfr atv=> ?_⟩;have n5W:=g7 h4W hjo;have h5W:=s5 _ _ h4W;have vno:∀u∈vs,H5 u=none:=vfr
         have jov:jo∉vs:=fun z=>by have:=vno jo z;rw[h5J] at this;cases this
         have Wv:W∉vs:=fun z=>by have:=vno W z;rw[h5W] at this;cases this
         have usv:∀u∈us,u∉vs:=fun u hu z=>by
           obtain ⟨jj,hjj⟩:=ef8.mp hu;obtain ⟨w,_,hw⟩:=atu.get hjj;have e:=vno u z;rw[s5 _ _ hw] at e;cases e
         have ov:o∉vs:=fun z=>by
           obtain ⟨jj,hjj⟩:=ef8.mp z;obtain ⟨w,_,hw⟩:=atv.get hjj;have hw:H6 o=_:=hw;rw[h6o] at hw;cases hw
         have noW:o≠W:=(g7 h5W ho).symm;have jnd:J.Nodup:=pj.nodup_iff.mpr xnd.1
         have jl40:J.length<=40:=by
           rw[pj.length_eq,W7 ok.rows,x1l];exact ed3 (ek0 _ cd) l40
         have tot2:=bn6 (f:=fun x:List (List Int)×List (List Int)=>(G9 ds d x.2).map fun w=>w++[x.1]) hx;rw[eb7] at tot2;have aul:=atu.1;rw[ec6] at aul;have vl:=atv.1
         refine ⟨o,rfl,⟨_,g9.of h6o⟩,K2 (K:=K) (a:=o) (xs:=vs.map V.ref) (fun k σ H7=>∃(v8:Option V),σ=[some (.ref l),some (.ref ra),some (.int (m:Int)),some (.ref W),some (.int (dd:Int)),some (.ref c),some (.ref xl),some (.ref jo),v8]/\H7 W=some (.lst ((us++vs.take k).map V.ref))/\M5 (bb9 len m H7) (us++vs.take k) (((ds.take i).flatMap (X7 (G9 ds d) rs)++((C0 rs (dd - 1)).take j).flatMap fun x=>(G9 ds d x.2).map fun w=>w++[x.1])++((G9 ds d x.2).take k).map fun w=>w++[x.1])/\(∀jj,k<=jj->∀u w,vs[jj]? =some u->(G9 ds d x.2)[jj]? =some w->bb9 len m H7 u w)/\(∀a u,a≠W->a∉vs->H6 a=some u->H7 a=some u))
           ⟨v8,rfl,by rw[eo4,ee3];exact s6 _ _ h5W,by rw[eo4,eo4,ep5,ee3,ee3];exact atu.imp fun u w _ h=>s6 _ _ (s5 _ _ h),fun jj _ u w e1 e2=>atv.2 jj u w e1 e2,fun a u _ _ e=>e⟩ (fun k σ H7 _ ⟨_,_,_,_,_,kk⟩=>g9.of (kk _ _ noW ov h6o)) ?_ ?_⟩
         · rintro k y σ H7 hk ⟨v8,rfl,h7W,at7,todo,keep7⟩
           obtain ⟨u,hu,rfl⟩:∃t,vs[k]? =some t/\y=V.ref t:=by
             rw[ec1] at hk
             cases e:vs[k]? with
             |none=>rw[e] at hk;cases hk
             |some a=>rw[e] at hk;exact ⟨a,rfl,(Option.some.inj hk).symm⟩
           obtain ⟨w,hw,_⟩:=atv.get hu;have h7u:H7 u=some (.dK (R9 (U3 len m w))):=todo k (ec0 _) u w hu hw;have um:=ec8 hu
           have nuW:u≠W:=fun z=>Wv (z▸um)
           have h7J:=keep7 jo _ n5W.symm jov (s6 _ _ h5J);have wok:=bj8 (m:=m) (fun dd h=>(rt dd h).1) d x2l.1 rl2 (ec8 hw)
           obtain ⟨es1,es2⟩:=ak3 len0 m1 w fun c hc=>rt _ (wok.right c hc).1
           have es3:(U3 len m w).length<=40:=by
             refine ed3 es2 ?_;rw[wok.perm.length_eq,W7 rl2];exact x240
           refine ⟨_,rfl,_,rfl,.inr ⟨u,jo,U3 len m w,J,rfl,h7u,h7J,jnd,fun z hz hz2=> ?_,by omega,by omega,fun H8 h8u kb8=> ?_⟩⟩
           · exact xnd.2.2 z (pj.mem_iff.mp hz) z (wok.perm.mem_iff.mp (es1 z hz2)) rfl
           have h8W:=kb8 _ _ h7W nuW.symm;have ltk:(vs.take k).length<=vs.length:=List.length_take_le' _ _;refine ⟨_,rfl,.inl ⟨rfl,_,g9.of h8W⟩,_,rfl,W,_,_,rfl,rfl,h8W,ee5 (show _<=2000 by rw[eb7,ec6];omega) (by decide),?_⟩;rw[show (us++vs.take k).map V.ref++[V.ref u]=(us++vs.take (k+1)).map V.ref by rw[j8 hu,<-ed9,ec4 (l₂:=[u])];rfl]
           have un:∀t∈us++vs.take k,t≠u:=fun t ht z=>by
             subst z
             rcases ed0.mp ht with y|y
             · exact usv t y um
             · obtain ⟨jj,hjj⟩:=ef8.mp y;rw[es7] at hjj
               by_cases c:jj < k
               · rw[if_pos c] at hjj;have a1:=(eb9.mp hjj).1;have a2:=(eb9.mp hu).1;exact ee7.mp (ed5.mp vnd) jj k a1 a2 c (by rw[(eb9.mp hjj).2,(eb9.mp hu).2])
               · rw[if_neg c] at hjj;cases hjj
           refine ⟨_,rfl,c8,?_,fun jj hjj u2 w2 e1 e2=> ?_,fun a v na nv e=> ?_⟩
           · have ea:us++vs.take (k+1)=(us++vs.take k)++[u]:=by rw[j8 hu,ed9]
             have eb:((G9 ds d x.2).take (k+1)).map (fun w=>w++[x.1])=((G9 ds d x.2).take k).map (fun w=>w++[x.1])++[w++[x.1]]:=by rw[j8 hw,ec4];rfl
             rw[ea,eb,<-ed9];refine M5.snoc (at7.imp fun t w2 ht h=> ?_) ?_
             · have h:H7 t=some (.dK (R9 (U3 len m w2))):=h;show c9 H8 W _ t=_;rw[g6 (show t≠W from fun z=>by rw[z,h7W] at h;cases h)];exact kb8 _ _ h (un t ht)
             · show c9 H8 W _ u=_;rw[g6 nuW,h8u,ca7,ej]
           · have h:=todo jj (by omega) u2 w2 e1 e2;have h:H7 u2=some (.dK (R9 (U3 len m w2))):=h;show c9 H8 W _ u2=_;rw[g6 (show u2≠W from fun z=>Wv (z▸ec8 e1))]
             refine kb8 _ _ h fun z=> ?_
             subst z;have a1:=(eb9.mp e1).1;have a2:=(eb9.mp hu).1;exact ee7.mp (ed5.mp vnd) k jj a2 a1 (by omega) (by rw[(eb9.mp e1).2,(eb9.mp hu).2])
           · rw[g6 na]
             exact kb8 _ _ (keep7 a v na nv e) fun z=>nv (z▸um)
         · rintro σ H7 ⟨v8,rfl,h7W,at7,todo,keep7⟩;rw[eb7,ef3] at h7W at7;rw[vl,ef3] at at7;refine ⟨us++vs,_,_,_,v8,rfl,h7W,?_,fun u hu=> ?_,?_,fun a u e na=> ?_⟩
           · rw[eh0];exact ⟨und,vnd,fun a ha b hb e=>usv a ha (e▸hb)⟩
           · rcases ed0.mp hu with z|z
             · exact ufr u z
             · exact (s04.trans s5).free (vno u z)
           · rw[j8 hx,el6,eh1,en1,ee3,<-ed9];exact at7
           · have e5:=s5 _ _ (kb4 _ _ e na);exact keep7 a u na (fun z=>by have:=vno a z;rw[e5] at this;cases this) (s6 _ _ e5)
       · rintro σ H4 ⟨us,v5,v6,v7,v8,rfl,h4W,und,ufr,atu,kb4⟩;rw[eb7,atc.1,ef3] at atu;exact ⟨us,_,_,_,_,_,rfl,h4W,und,ufr,atu,(s02.trans s3).kb kb4 hW⟩
     · rw[decide_eq_false (show ¬(dd:Int)<=(rs.length:Int) by omega)];have ewp:X7 (G9 ds d) rs dd=[]:=if_neg cd;rw[ewp,ee3];exact B6 ⟨us0,_,_,_,_,_,rfl,h2W,und0,ufr0,atu0,s02⟩
   · rintro σ H2 ⟨us,v4,v5,v6,v7,v8,rfl,h2W,und,ufr,atu,s02⟩;rw[show ((G3 ds).map V.int).length=ds.length by unfold G3;rw[eb7,eb7],ef3,<-ewf] at atu;exact ⟨_,rfl,q W us H2 hW s02 h2W und ufr atu⟩
end
end My
namespace My
open PySem L2 Mth PySem.Spec PyProof.Rows
section
variable {P:Program} {w:World} {K:PySem.W.Frag} {mg:Str->Option Value} {base:Heap}
def dq5 (td:TE):TI:=fun σ H R=>td σ H fun x H1=>∃d kvs,x= .ref d/\((H1 d=some (.dK kvs)/\∀o,R (Itd d o kvs) (c9 H1 d (.frz o (.dK kvs))))\/∃o,H1 d=some (.frz o (.dK kvs))/\R (Itd d o kvs) H1)
theorem da6 {X:Cx}{tg l:Expr}{tl:TE}(hl:PE X l tl):PI X tg l (dq5 tl):=by
 intro pins s σ H R I h
 refine t7 (hl pins s σ H _ I h) fun v s1 ⟨x,H1,I1,r1,q1⟩=> ?_
 obtain ⟨d,kvs,e,q⟩:=q1;subst e;cases r1
 rcases q with ⟨hH,q⟩|⟨o,hH,q⟩
 · obtain ⟨_,hsm,vs,rel,o,es,ep,ho,hc,hdat,rr⟩:=(show B0 X.prog X.w H1 s1.heap d (.dK kvs) from I1.hok d _ hH);have hat:s1.heap.DictAt (E6 X.prog X.w) d vs ep:=⟨o,es,ho,hc,hdat,rr⟩;have I2:=I1.freeze hH ho;refine wpAny_pyIter_dict hsm hat ?_;have hlen:kvs.length=vs.length:=rel.length;refine ⟨s1.heap.objs.size,[s1.heap.objs.size],_,_,_,rfl,I2.kept (t':=s1.toks) fun b o e=>Heap.get?_push_of_some _ e,ax8 d _ o kvs es ep hdat,⟨_,Heap.get?_push_size _ rfl,rfl,by rw[hlen];rfl⟩,fun b hb=> ?_,q o⟩
   have e:b=s1.heap.objs.size:=by simpa using hb
   subst e;exact I2.fpOk (ec0 _) (I2.hok.fresh (ec0 _))
 · obtain ⟨ho0,_,hsm,vs,rel,o',es,ep,ho,hc,hdat,rr⟩:=(show B0 X.prog X.w H1 s1.heap d (.frz o (.dK kvs)) from I1.hok d _ hH)
   have eo:o'=o:=by rw[ho0] at ho;exact (Option.some.inj ho).symm
   subst eo;have hat:s1.heap.DictAt (E6 X.prog X.w) d vs ep:=⟨o',es,ho,hc,hdat,rr⟩;refine wpAny_pyIter_dict hsm hat ?_;have hlen:kvs.length=vs.length:=rel.length;refine ⟨s1.heap.objs.size,[s1.heap.objs.size],_,_,_,rfl,I1.kept (t':=s1.toks) fun b o e=>Heap.get?_push_of_some _ e,ax8 d _ o' kvs es ep hdat,⟨_,Heap.get?_push_size _ rfl,rfl,by rw[hlen];rfl⟩,fun b hb=> ?_,q⟩
   have e:b=s1.heap.objs.size:=by simpa using hb
   subst e;exact I1.fpOk (ec0 _) (I1.hok.fresh (ec0 _))
def B8 (t:List Int)(es:List (Int×Int)):List Int:=es.foldl (fun t e=>t.set e.1.toNat e.2) t
theorem av3 (es:List (Int×Int)):∀t:List Int,(B8 t es).length=t.length:=by
 induction es with
 |nil=>intro t;rfl
 |cons e es ih=>intro t;show (B8 (t.set e.1.toNat e.2) es).length=_;rw[ih,en5]
theorem cd8 (t:List Int)(es:List (Int×Int))(e:Int×Int):B8 t (es++[e])=(B8 t es).set e.1.toNat e.2:=by
 unfold B8;rw[et2];rfl
def U0 (laid:List (List Int))(ways:List (List (Int×Int))):List (List Int):=laid.flatMap fun t=>ways.map (B8 t)
def U1 (p:List Int)(y9:List (List (List (Int×Int)))):List (List Int):=y9.foldl U0 [p]
theorem bk0 (p:List Int)(y9:List (List (List (Int×Int))))(c:List (List (Int×Int))):U1 p (y9++[c])=U0 (U1 p y9) c:=by
 unfold U1;rw[et2];rfl
theorem da7 {n:Nat}{laid:List (List Int)}{ways:List (List (Int×Int))}(h:∀t∈laid,t.length=n):∀t∈U0 laid ways,t.length=n:=fun t ht=>by
 obtain ⟨t',h',z⟩:=ei4.mp ht;obtain ⟨es,_,rfl⟩:=ed2.mp z;rw[av3];exact h t' h'
theorem br6 (p:List Int)(y9:List (List (List (Int×Int)))):∀t∈U1 p y9,t.length=p.length:=by
 have g:∀(y9:List (List (List (Int×Int)))) (laid:List (List Int)),(∀t∈laid,t.length=p.length)->∀t∈y9.foldl U0 laid,t.length=p.length:=fun y9=>by
   induction y9 with
   |nil=>intro laid h;exact h
   |cons c y9 ih=>intro laid h;exact ih _ (da7 h)
 exact g y9 [p] fun t ht=>by rw[ec9.mp ht]
def av4 (H:Hp)(u:Addr)(es:List (Int×Int)):Prop:=H u=some (.dK (R9 es))\/∃o,H u=some (.frz o (.dK (R9 es)))
structure Kp (H H':Hp):Prop where
 nd:∀x u,H x=some u->(∀kvs,u≠.dK kvs)->H' x=some u
 tab:∀x es,av4 H x es->av4 H' x es
 fr:∀x,H' x=none->H x=none
theorem Kp.refl (H:Hp):Kp H H:=⟨fun _ _ e _=>e,fun _ _ e=>e,fun _ e=>e⟩
theorem Kp.of {H H':Hp}(s:e7 H H'):Kp H H':=⟨fun x u e _=>s _ _ e,fun x es e=>e.elim (fun e=> .inl (s _ _ e)) fun ⟨o,e⟩=> .inr ⟨o,s _ _ e⟩,fun x e=>s.free e⟩
theorem Kp.trans {H H' H'':Hp}(a:Kp H H')(b:Kp H' H''):Kp H H'':=⟨fun x u e n=>b.nd x u (a.nd x u e n) n,fun x es e=>b.tab x es (a.tab x es e),fun x e=>a.fr x (b.fr x e)⟩
theorem Kp.lst {H H':Hp}(k:Kp H H'){a:Addr}{xs:List V}(e:H a=some (.lst xs)):H' a=some (.lst xs):=k.nd a _ e (fun kvs z=>by cases z)
theorem Kp.rows {H H':Hp}(k:Kp H H'){as:List Addr}{rs:List (List Int)}(h:m9 H as rs):m9 H' as rs:=⟨h.1,fun j a r e1 e2=>k.lst (h.2 j a r e1 e2)⟩
theorem Kp.upd_r {H H':Hp}(k:Kp H H'){x:Addr}{o:HO}(n:H x=none):Kp H (c9 H' x o):=by
 have ne:∀a u,H a=some u->a≠x:=fun a u e z=>by rw[z,n] at e;cases e
 refine ⟨fun a u e h=>by rw[g6 (ne a u e)];exact k.nd a u e h,fun a es e=> ?_,fun a e=> ?_⟩
 · have nx:a≠x:=e.elim (fun e=>ne a _ e) fun ⟨_,e⟩=>ne a _ e
   unfold av4;rw[g6 nx];exact k.tab a es e
 · by_cases z:a=x
   · rw[z];exact n
   · rw[g6 z] at e;exact k.fr a e
theorem Kp.freeze {H:Hp}{u:Addr}{kvs:List (w6×V)}{o:Obj}(e:H u=some (.dK kvs)):Kp H (c9 H u (.frz o (.dK kvs))):=by
 refine ⟨fun a v h n=> ?_,fun a es h=> ?_,fun a h=> ?_⟩
 · rw[g6 fun z=>by rw[z,e] at h;cases h;exact n _ rfl];exact h
 · by_cases z:a=u
   · subst z
     rcases h with h|⟨_,h⟩
     · rw[e] at h;cases h;exact .inr ⟨o,c8⟩
     · rw[e] at h;cases h
   · unfold av4;rw[g6 z];exact h
 · by_cases z:a=u
   · rw[z,c8] at h;cases h
   · rw[g6 z] at h;exact h
theorem ch4:∀{es:List (Int×Int)} {i:Nat} {e:Int×Int},(es.map (·.1)).Nodup->es[i]? =some e->D0 (R9 es) (Sum.inl e.1:w6)=some (.int e.2)
 |[],i,e,_,h=>by cases h
 |x::es,0,e,_,h=>by cases h;exact K6 rfl
 |x::es,i+1,e,nd,h=>by
  rw[eg6,eg5] at nd;have hm:e∈es:=ec8 h;show D0 ((Sum.inl x.1,V.int x.2)::R9 es) _=_;rw[K3]
  · exact ch4 nd.2 h
  · intro z;have z:x.1=e.1:=Sum.inl.inj z;exact nd.1 (by rw[z];exact List.mem_map_of_mem hm)
def cl4:Sp:=fun vs H Q _=>∃(a ch:Addr) (p:List Int) (cs:List Addr) (y9:List (List (List (Int×Int)))),vs=[.ref a,.ref ch]/\H a=some (.lst (p.map V.int))/\p.length<=40/\H ch=some (.lst (cs.map V.ref))/\
 M5 (fun c ways=>∃us,H c=some (.lst (us.map V.ref))/\M5 (av4 H) us ways) cs y9/\(∀ways∈y9,∀es∈ways,(es.map (·.1)).Nodup/\∀e∈es,0<=e.1/\e.1 < (p.length:Int))/\(∀i,(U1 p (y9.take i)).length<=2000)/\
 ∀(o:Addr) (bs:List Addr) (ts:List (List Int)) (H':Hp),H o=none->H' o=some (.lst (bs.map V.ref))->m9 H' bs ts->ts.Perm (U1 p y9)->ts.Pairwise (fun r r'=>HT.ba5 r' r=false)->bs.Nodup->(∀b∈bs,H b=none)->o∉bs->Kp H H'->Q (.ref o) H'
theorem G1:m8 ["p","choices","laid","ways","wider","turn","way","told","thing"] ["p","choices"] (j6 ab5):=⟨rfl,rfl,rfl,by decide+kernel,rfl,by decide+kernel,by decide+kernel⟩
theorem bg2 {f:Addr}{fd:FuncData}(F:E7 K "lay_every_way" "lay_every_way" ab5 f fd)(B:Bl mg):o8 P w K mg base G2 1 f fd ["p","choices"] cl4:=by
 refine F.ok G1 (fun vs H Q E h=> ?_) (fun cdv A outer s H vs Q E hr h=> ?_)
 · obtain ⟨a,ch,p,cs,y9,rfl,ha,lp,hch,atc,keys,few,q⟩:=h;rfl
 · obtain ⟨a,ch,p,cs,y9,rfl,ha,lp,hch,atc,keys,few,q⟩:=h;have hu:=Q3 hr;have hu2:_+1+1 < cLine:=ee5 (ep2 (by decide:2<=64) _) hr.units;refine ⟨_,@c7 _ _ _ _ _ (@i6 _ _ (2) _ _ _ _ G1.nd rfl (Or.inl rfl) (@o6 _ _ _ _ (@c5 _ _ _ _ _ (@al0 _ _ _ _ _ B.list (@c5 _ _ _ _ _ (pv 0) (@c6 _) (by rfl)) (by rfl) (by rfl)) (@c6 _) (by rfl))) (by rfl) (by trivial)) (@c7 _ _ _ _ _ (@o9 _ _ _ _ _ _ _ _ PassesOwn.never rfl (@E2 _ _ _ _ (pv 1)) (@i8 _ _ (3) _ G1.nd rfl (Or.inl rfl) (by trivial)) (@c7 _ _ _ _ _ (@i6 _ _ (4) _ _ _ _ G1.nd rfl (Or.inl rfl) (@o6 _ _ _ _ (@c6 _)) (by rfl) (by trivial)) (@c7 _ _ _ _ _ (@o9 _ _ _ _ _ _ _ _ PassesOwn.never rfl (@E2 _ _ _ _ (pv 2)) (@i8 _ _ (5) _ G1.nd rfl (Or.inl rfl) (by trivial)) (@e8 _ _ _ (@o9 _ _ _ _ _ _ _ _ PassesOwn.never rfl (@E2 _ _ _ _ (pv 3)) (@i8 _ _ (6) _ G1.nd rfl (Or.inl rfl) (by trivial)) (@c7 _ _ _ _ _ (@i6 _ _ (7) _ _ _ _ G1.nd rfl (Or.inl rfl) (@al0 _ _ _ _ _ B.list (@c5 _ _ _ _ _ (pv 5) (@c6 _) (by rfl)) (by rfl) (by rfl)) (by rfl) (by trivial)) (@c7 _ _ _ _ _ (@o9 _ _ _ _ _ _ _ _ PassesOwn.never rfl (da6 (pv 6)) (@i8 _ _ (8) _ G1.nd rfl (Or.inl rfl) (by trivial)) (@e8 _ _ _ (@ah6 _ _ _ _ _ _ (@ao1 _ _ _ _ _ _ hu (pv 6) (pv 8) (fun _ _=>rfl)) (@an7 _ _ _ _ _ _ _ (pv 7) (pv 8) ac8 (by intro _;rfl)) (by rfl) (by rfl) (by rfl))) (by intro _;rfl)) (@e8 _ _ _ (@C3 _ _ _ _ (@C7 _ _ _ _ _ _ _ (pv 4) (@c5 _ _ _ _ _ (pv 7) (@c6 _) (by rfl)) (by rfl) (by rfl) (by rfl) (by rfl) (by rfl)) (by rfl))))) (by intro _;rfl))) (by intro _;rfl)) (@e8 _ _ _ (@i6 _ _ (2) _ _ _ _ G1.nd rfl (Or.inl rfl) (pv 4) (by rfl) (by trivial))))) (by intro _;rfl)) (@e8 _ _ _ (@j9 _ _ _ _ (cd5 hu2 B.sorted (@c5 _ _ _ _ _ (pv 2) (@c6 _) (by rfl)))))),?_⟩
   try dsimp only[y7,Cx.nox,Cx.wish]
   refine ⟨_,rfl,a,_,rfl,.inl (g9.of ha),fun e0 he0=> ?_⟩;have s1:e7 H (c9 H e0 (.lst (p.map V.int))):=e7.upd_new he0;have h1e:(c9 H e0 (.lst (p.map V.int))) e0=some (.lst (p.map V.int)):=c8;generalize (c9 H e0 (.lst (p.map V.int)))=H1 at s1 h1e ⊢;refine ⟨(show 1<=sizeLine by decide),fun F0 hF0=> ?_⟩;have s2:e7 H1 (c9 H1 F0 (.lst [V.ref e0])):=e7.upd_new hF0;have h2F:(c9 H1 F0 (.lst [V.ref e0])) F0=some (.lst (([e0]:List Addr).map V.ref)):=c8;generalize (c9 H1 F0 (.lst [V.ref e0]))=H2 at s2 h2F ⊢;have s02:=s1.trans s2
   refine ⟨_,rfl,ch,rfl,⟨_,g9.of (s02 _ _ hch)⟩,K2 (K:=K) (a:=ch) (xs:=cs.map V.ref) (fun i σ H3=>∃(F:Addr) (ts:List Addr) (v3 v4 v5 v6 v7 v8:Option V),σ=[some (.ref a),some (.ref ch),some (.ref F),v3,v4,v5,v6,v7,v8]/\H3 F=some (.lst (ts.map V.ref))/\m9 H3 ts (U1 p (y9.take i))/\ts.Nodup/\(∀t∈ts,H t=none)/\Kp H H3)
     ⟨F0,[e0],none,none,none,none,none,none,rfl,h2F,⟨rfl,fun j b r e1 e2=>by
       rcases j with _|j
       · cases e1;cases e2;exact s2 _ _ h1e
       · cases e1⟩,by simp,fun t ht=>by rw[ec9.mp ht];exact he0,Kp.of s02⟩ (fun i σ H3 _ ⟨_,_,_,_,_,_,_,_,_,_,_,_,_,k⟩=>g9.of (k.lst hch)) ?_ ?_⟩
   · rintro i y σ H3 hi ⟨F,ts,v3,v4,v5,v6,v7,v8,rfl,h3F,rows,tnd,tfr,k3⟩
     obtain ⟨c,hc,rfl⟩:∃c,cs[i]? =some c/\y=V.ref c:=by
       rw[ec1] at hi
       cases e:cs[i]? with
       |none=>rw[e] at hi;cases hi
       |some a=>rw[e] at hi;exact ⟨a,rfl,(Option.some.inj hi).symm⟩
     obtain ⟨ways,hw,us,hcu,atu⟩:=atc.get hc;have fewi:=few (i+1);rw[j8 hw,bk0] at fewi ⊢;have lens:=br6 p (y9.take i);generalize U1 p (y9.take i)=laid at rows fewi lens ⊢;have kw:=keys ways (ec8 hw);refine ⟨ed7 _,fun W hW=> ?_⟩;have hW0:H W=none:=k3.fr W hW;have s4:e7 H3 (c9 H3 W (.lst [])):=e7.upd_new hW;have h4W:(c9 H3 W (.lst [])) W=some (.lst (([]:List Addr).map V.ref)):=c8;generalize (c9 H3 W (.lst []))=H4 at s4 h4W ⊢
     refine ⟨_,rfl,F,rfl,⟨_,g9.of (s4 _ _ h3F)⟩,K2 (K:=K) (a:=F) (xs:=ts.map V.ref) (fun j σ H5=>∃(bs:List Addr) (v5 v6 v7 v8:Option V),σ=[some (.ref a),some (.ref ch),some (.ref F),some (.ref c),some (.ref W),v5,v6,v7,v8]/\H5 W=some (.lst (bs.map V.ref))/\m9 H5 bs (U0 (laid.take j) ways)/\bs.Nodup/\(∀b∈bs,H3 b=none)/\W∉bs/\Kp H3 H5)
       ⟨[],v5,v6,v7,v8,rfl,h4W,⟨rfl,fun j b r h=>by cases h⟩,ei6,(fun b hb=>by cases hb),(fun z=>by cases z),Kp.of s4⟩ (fun j σ H5 _ ⟨_,_,_,_,_,_,_,_,_,_,_,k⟩=>g9.of (k.lst h3F)) ?_ ?_⟩
     · rintro j y σ H5 hj ⟨bs0,v5,v6,v7,v8,rfl,h5W,rowsB0,bnd0,bfr0,Wb0,k5⟩
       obtain ⟨t,ht,rfl⟩:∃t,ts[j]? =some t/\y=V.ref t:=by
         rw[ec1] at hj
         cases e:ts[j]? with
         |none=>rw[e] at hj;cases hj
         |some a=>rw[e] at hj;exact ⟨a,rfl,(Option.some.inj hj).symm⟩
       obtain ⟨row,hrow⟩:∃r,laid[j]? =some r:=⟨_,eb8 (by rw[<-rows.1];exact (eb9.mp ht).1)⟩;have h3t:=rows.2 j t row ht hrow;have lrow:=lens row (ec8 hrow);have tot:=bn6 (f:=fun t=>ways.map (B8 t)) hrow;rw[eb7] at tot;have h5c:=(k3.trans k5).lst hcu
       refine ⟨_,rfl,c,rfl,⟨_,g9.of h5c⟩,K2 (K:=K) (a:=c) (xs:=us.map V.ref) (fun k σ H6=>∃(bs:List Addr) (v6 v7 v8:Option V),σ=[some (.ref a),some (.ref ch),some (.ref F),some (.ref c),some (.ref W),some (.ref t),v6,v7,v8]/\H6 W=some (.lst (bs.map V.ref))/\m9 H6 bs (U0 (laid.take j) ways++(ways.take k).map (B8 row))/\bs.Nodup/\(∀b∈bs,H3 b=none)/\W∉bs/\Kp H3 H6)
         ⟨bs0,v6,v7,v8,rfl,h5W,by rw[eo4,ep5,ee3];exact rowsB0,bnd0,bfr0,Wb0,k5⟩ (fun k σ H6 _ ⟨_,_,_,_,_,_,_,_,_,_,kk⟩=>g9.of ((k3.trans kk).lst hcu)) ?_ ?_⟩
       · rintro k y σ H6 hk ⟨bs,v6,v7,v8,rfl,h6W,rowsB,bnd,bfr,Wb,k6⟩
         obtain ⟨u,hu,rfl⟩:∃t,us[k]? =some t/\y=V.ref t:=by
           rw[ec1] at hk
           cases e:us[k]? with
           |none=>rw[e] at hk;cases hk
           |some a=>rw[e] at hk;exact ⟨a,rfl,(Option.some.inj hk).symm⟩
         obtain ⟨es,hes,tu⟩:=atu.get hu;obtain ⟨knd,kbd⟩:=kw es (ec8 hes);refine ⟨_,rfl,t,_,rfl,.inl (g9.of (k6.lst h3t)),fun to hto=> ?_⟩;have s7:e7 H6 (c9 H6 to (.lst (row.map V.int))):=e7.upd_new hto;have h7t:(c9 H6 to (.lst (row.map V.int))) to=some (.lst (row.map V.int)):=c8;generalize (c9 H6 to (.lst (row.map V.int)))=H7 at s7 h7t ⊢;have k67:Kp H6 H7:=Kp.of s7;have tu7:av4 H7 u es:=k67.tab u es (k6.tab u es (k3.tab u es tu));refine ⟨_,rfl,u,R9 es,rfl,?_⟩;refine tu7.elim (fun h=> .inl ⟨h,fun o=> ?_⟩) (fun ⟨o,h⟩=> .inr ⟨o,h,?_⟩)
         all_goals
           first
             |(have h8u:(c9 H7 u (.frz o (.dK (R9 es)))) u=some (.frz o (.dK (R9 es))):=c8
               have k68:=k67.trans (Kp.freeze (o:=o) h);have h8t:=(Kp.freeze (o:=o) h).lst h7t
               generalize (c9 H7 u (.frz o (.dK (R9 es))))=H8 at h8u k68 h8t ⊢)
             |(have h8u:=h
               have k68:=k67;have h8t:=h7t
               generalize H7=H8 at h8u k68 h8t ⊢)
           have nut:u≠to:=fun z=>by rw[z,h8t] at h8u;cases h8u
           refine as2 (fun q σ H9=>∃(v8:Option V),σ=[some (.ref a),some (.ref ch),some (.ref F),some (.ref c),some (.ref W),some (.ref t),some (.ref u),some (.ref to),v8]/\H9 to=some (.lst ((B8 row (es.take q)).map V.int))/\H9 u=some (.frz o (.dK (R9 es)))/\Kp H6 H9)
             ⟨v8,rfl,h8t,h8u,k68⟩ (fun q σ H9 _ ⟨_,_,_,e,_⟩=>e) ?_ ?_
           · rintro q kk vv σ H9 hq ⟨v8,rfl,h9t,h9u,k9⟩;unfold R9 at hq;rw[ec1] at hq
             cases hE:es[q]? with
             |none=>rw[hE] at hq;cases hq
             |some e=>
              rw[hE] at hq;cases hq;have eb:=kbd e (ec8 hE);refine ⟨_,rfl,_,rfl,u,.int e.2,rfl,.inl ⟨R9 es,Sum.inl e.1,.inr ⟨o,h9u⟩,rfl,(ch4 knd hE).symm⟩,?_⟩;refine ⟨_,rfl,_,rfl,to,_,_,e.1.toNat,rfl,rfl,h9t,?_,?_⟩
              · unfold ixN;rw[eb7,av3,if_pos eb.1,if_pos (by omega)]
              · refine ⟨_,rfl,?_,by rw[g6 nut];exact h9u,k9.upd_r hto⟩;rw[c8,j8 hE,cd8,es9]
           · rintro σ H9 ⟨v8,rfl,h9t,h9u,k9⟩;rw[show (R9 es).length=es.length by unfold R9;rw[eb7],ef3] at h9t;have h9W:=k9.lst h6W
             have lb:bs.length<=2000:=by
               have:=rowsB.1;rw[ec6,eb7,ee1] at this;unfold U0 at this fewi;omega
             refine ⟨_,rfl,.inl ⟨rfl,_,g9.of h9W⟩,_,rfl,W,_,_,rfl,rfl,h9W,ee5 (show _<=2000 by rw[eb7];omega) (by decide),?_⟩;have nWt:W≠to:=g7 h6W hto;have k9':Kp H3 (c9 H9 W (.lst (bs.map V.ref++[V.ref to]))):=(k6.trans k9).upd_r hW
             have r9:m9 (c9 H9 W (.lst (bs.map V.ref++[V.ref to]))) (bs++[to]) ((U0 (laid.take j) ways++(ways.take k).map (B8 row))++[B8 row es]):=by
               refine O2 (t6 (k9.rows rowsB) fun b hb v e=> ?_) (by rw[g6 nWt.symm];exact h9t);rw[g6 (show b≠W from fun z=>Wb (z▸hb))];exact e
             refine ⟨bs++[to],_,_,_,rfl,by rw[c8,ec4];rfl,?_,?_,fun b hb=> ?_,fun z=> ?_,k9'⟩
             · have eb:(ways.take (k+1)).map (B8 row)=(ways.take k).map (B8 row)++[B8 row es]:=by rw[j8 hes,ec4];rfl
               rw[eb,<-ed9];exact r9
             · rw[eh0];refine ⟨bnd,by simp,fun x hx z hz e=> ?_⟩;rw[ec9.mp hz] at e;obtain ⟨r,hr⟩:=W5 rowsB hx;rw[e,hto] at hr;cases hr
             · rcases ed0.mp hb with z|z
               · exact bfr b z
               · rw[ec9.mp z];exact k6.fr to hto
             · rcases ed0.mp z with z|z
               · exact Wb z
               · exact nWt (ec9.mp z)
       · rintro σ H6 ⟨bs,v6,v7,v8,rfl,h6W,rowsB,bnd,bfr,Wb,k6⟩;refine ⟨bs,_,v6,v7,v8,rfl,h6W,?_,bnd,bfr,Wb,k6⟩;rw[eb7,atu.1,ef3] at rowsB
         have e:U0 (laid.take (j+1)) ways=U0 (laid.take j) ways++ways.map (B8 row):=by
           unfold U0;rw[j8 hrow,el6,eh1,en1,ee3]
         rw[e];exact rowsB
     · rintro σ H5 ⟨bs,v5,v6,v7,v8,rfl,h5W,rowsB,bnd,bfr,Wb,k5⟩;rw[eb7,rows.1,ef3] at rowsB;exact ⟨_,rfl,W,bs,_,_,_,_,_,_,rfl,h5W,rowsB,bnd,fun b hb=>k3.fr b (bfr b hb),k3.trans k5⟩
   · rintro σ H3 ⟨F,ts,v3,v4,v5,v6,v7,v8,rfl,h3F,rows,tnd,tfr,k3⟩;rw[eb7,atc.1,ef3] at rows;refine ⟨_,rfl,F,ts,_,rfl,g9.of h3F,rows,fun bs rs o pb pr rowsB srt ho=> ?_⟩;have s4:e7 H3 (c9 H3 o (.lst (bs.map V.ref))):=e7.upd_new ho;refine q o bs rs _ (k3.fr o ho) c8 (t6 rowsB fun b _ u e=>s4 _ _ e) pr srt (pb.nodup_iff.mpr tnd) (fun b hb=>tfr b (pb.mem_iff.mp hb)) (fun z=> ?_) (k3.trans (Kp.of s4));obtain ⟨r,hr⟩:=W5 rowsB z;rw[ho] at hr;cases hr
end
end My
namespace My
open PySem L2 Mth
section
theorem br7 {β:Type}(g:Nat->List β):∀ds:List Nat,(ds.flatMap g).length=N0 ds fun d=>(g d).length
 |[]=>rfl
 |d::ds=>by rw[eh1,ec6,br7 g ds,N3]
theorem bn7 {f:Nat->Nat}:∀{ds:List Nat} {d:Nat},d∈ds->f d<=N0 ds f
 |x::ds,d,h=>by
  rw[N3]
  rcases ee0.mp h with rfl|h
  · omega
  · have:=bn7 (f:=f) h;omega
theorem br8 {f:Nat->Nat}:∀{ds:List Nat},N0 ds f≠0->∃d∈ds,f d≠0
 |[],h=>absurd rfl h
 |x::ds,h=>by
  rw[N3] at h
  by_cases c:f x=0
  · obtain ⟨d,hd,e⟩:=br8 (f:=f) (ds:=ds) (by omega);exact ⟨d,ec7 _ hd,e⟩
  · exact ⟨x,ec5,c⟩
theorem an3 {n l:Nat}(l1:1<=l):∀k,k < n->1<=x6 n l k
 |0,_=>ec0 _
 |k+1,h=>by
  show 1<=x6 n l k*(n - (k+1))*l;exact ej8 (ej8 (an3 l1 k (by omega)) (by omega)) l1
theorem az0 {n l:Nat}(l1:1<=l)(k:Nat):∀j,k+j < n->x6 n l k<=x6 n l (k+j)
 |0,_=>ec0 _
 |j+1,h=>by
  refine ed3 (az0 l1 k j (by omega)) ?_;show x6 n l (k+j)<=x6 n l (k+j)*(n - (k+j+1))*l;rw[ej2];exact ef9 _ (ej8 (by omega) l1)
theorem bg3 {l:Nat}{ds:List Nat}(hd:∀d∈ds,1<=d):∀(f:Nat) {rs:List (List Int)},rs.length<=f->(∀r∈rs,r.length=l)->(G9 ds f rs).length=jf l ds rs.length
 |0,rs,hf,_=>by rw[show rs.length=0 by omega];rfl
 |f+1,rs,hf,hl=>by
  show (if rs.length=0 then [[]] else ds.flatMap (X7 (G9 ds f) rs)).length=_
  by_cases c:rs.length=0
  · rw[if_pos c,c];rfl
  · rw[if_neg c,br7,(au7 (l:=l) hd).2 rs.length (by omega)]
    refine X6 fun d hdm=> ?_
    have d1:=hd d hdm;unfold X7
    by_cases c2:d<=rs.length
    · rw[if_pos c2,if_pos c2,ak2 (c:=jf l ds (rs.length - d)) fun x hx=> ?_,au9 hl (d - 1) (by omega)];have o:=L8 hl (d - 1) (by omega) hx;rw[eb7,bg3 hd f (by have:=o.left;omega) fun r hr=>hl r (o.rows2 r hr)]
      congr 1
      have:=o.left;omega
    · rw[if_neg c2,if_neg c2];rfl
structure cl5 (ds:List Nat)(N d0:Nat):Prop where
 pos:1<=d0
 one:∀d∈ds,1<=d
 all:∀d∈ds,d0∣d
 in_:d0<=N->d0∈ds
theorem cu4 {l N d0:Nat}{ds:List Nat}(b:cl5 ds N d0)(l1:1<=l):∀q,d0*q<=N->1<=jf l ds (d0*q)
 |0,_=>ec0 _
 |q+1,h=>by
  have p:=b.pos;have e:d0*(q+1)=d0*q+d0:=ex9 _ _;rw[(au7 (l:=l) b.one).2 (d0*(q+1)) (by omega)];refine ed3 ?_ (bn7 (b.in_ (by omega)));rw[if_pos (by omega),show d0*(q+1) - d0=d0*q by omega];exact ej8 (an3 l1 _ (by omega)) (cu4 b l1 q (by omega))
theorem cu5 {l N d0:Nat}{ds:List Nat}(b:cl5 ds N d0):∀(g n:Nat),n<=g->jf l ds n≠0->d0∣n
 |0,n,h,_=>by rw[show n=0 by omega];exact Nat.dvd_zero _
 |g+1,n,h,z=>by
  by_cases c:n=0
  · rw[c];exact Nat.dvd_zero _
  · rw[(au7 (l:=l) b.one).2 n (by omega)] at z;obtain ⟨d,hd,e⟩:=br8 z;have d1:=b.one d hd
    by_cases c2:d<=n
    · rw[if_pos c2] at e;have:=cu5 b g (n - d) (by omega) (fun y=>e (by rw[y,ek3]));have e2:=Nat.dvd_add this (b.all d hd);rw[en3 c2] at e2;exact e2
    · rw[if_neg c2] at e;exact absurd rfl e
theorem cu6 {l N d0:Nat}{ds:List Nat}(b:cl5 ds N d0)(l1:1<=l):∀(f:Nat) {rs:List (List Int)},rs.length<=f->rs.length<=N->(∀r∈rs,r.length=l)->d0∣rs.length->jf l ds rs.length<=2000->Few ds f rs
 |0,rs,_,_,_,_,_=>trivial
 |f+1,rs,hf,hN,hl,dv,le=>by
  refine ⟨fun d hd hdn=> ?_,by rw[bg3 b.one (f+1) hf hl];exact le⟩;have d1:=b.one d hd;obtain ⟨q,hq⟩:=Nat.dvd_sub dv (b.all d hd)
  have jp:1<=jf l ds (rs.length - d):=by rw[hq];exact cu4 b l1 q (by omega)
  have t1:x6 rs.length l (d - 1)*jf l ds (rs.length - d)<=jf l ds rs.length:=by
    rw[(au7 (l:=l) b.one).2 rs.length (by omega)];have:=bn7 (f:=fun d=>if d<=rs.length then x6 rs.length l (d - 1)*jf l ds (rs.length - d) else 0) hd;rw[if_pos hdn] at this;exact this
  have t2:x6 rs.length l (d - 1)<=jf l ds rs.length:=ed3 (ef9 _ jp) t1;have t3:jf l ds (rs.length - d)<=jf l ds rs.length:=ed3 (eq1 _ (an3 l1 (d - 1) (by omega))) t1;refine ⟨fun k hk=> ?_,fun x hx=> ?_⟩
  · rw[au9 hl k (by omega)];have:=az0 l1 k (d - 1 - k) (n:=rs.length) (by omega);rw[show k+(d - 1 - k)=d - 1 by omega] at this;omega
  · have o:=L8 hl (d - 1) (by omega) hx
    have e:x.2.length=rs.length - d:=by have:=o.left;omega
    exact cu6 b l1 f (by omega) (by omega) (fun r hr=>hl r (o.rows2 r hr)) (by rw[e];exact Nat.dvd_sub dv (b.all d hd)) (by rw[e];omega)
end
end My
namespace My
open PySem L2 Mth
section
variable {P:Program} {w:World} {K:PySem.W.Frag} {mg:Str->Option Value} {base:Heap}
theorem dd2 {l m:Nat}(hm:0 < m):∀(n d:Nat),am4 l m d->m - d<=n->∃d,bw9 l m d
 |0,d,u,h=>by
  by_cases z:ef6 l (m/d)=1
  · exact ⟨d,u.done z⟩
  · have:=u.more hm z;omega
 |n+1,d,u,h=>by
  by_cases z:ef6 l (m/d)=1
  · exact ⟨d,u.done z⟩
  · have:=u.more hm z;exact dd2 hm n _ (u.step hm) (by omega)
theorem dj1 {l m:Nat}(hm:0 < m):∃d,bw9 l m d:=dd2 hm (m - 1) 1 (.start l m) (ec0 _)
theorem W8 {l m n d:Nat}(h:d∈y8 l m n):S0 l m d:=by
 refine ⟨(K0 h).1,?_⟩;unfold y8 at h;exact of_decide_eq_true (ei0.mp h).2
theorem bc0 {l m n:Nat}(m1:1<=m):∃d0,cl5 (y8 l m n) n d0:=by
 obtain ⟨d0,h⟩:=dj1 (l:=l) m1;have p:=h.pos m1;refine ⟨d0,p,fun d hd=>(K0 hd).1,fun d hd=> ?_,fun hn=> ?_⟩
 · have r:=W8 hd;obtain ⟨a,b⟩:=(bq3 r.1).mp r.2;exact h.least d a b
 · unfold y8;refine ei0.mpr ⟨ed2.mpr ⟨d0 - 1,eg0.mpr (by omega),by omega⟩,decide_eq_true ((bq3 p).mpr ⟨h.parts,h.rest⟩)⟩
theorem ca8 {l m:Nat}(l0:0 < l)(m1:1<=m):∀(w:List (List (List Int))),(∀c∈w,S0 l m c.length)->(w.map eq9).flatten.Nodup->((U3 l m w).map (·.1)).Nodup
 |[],_,_=>ei6
 |c::w,h,nd=>by
  rw[eg6,eg7,eh0] at nd;have i:=ca8 l0 m1 w (fun c hc=>h c (ec7 _ hc)) nd.2.1
  have e:U3 l m (c::w)=K4 (J7 l m c)++U3 l m w:=by unfold U3;rw[eh1]
  rw[e,ec4,av0,eh0];refine ⟨?_,i,fun x hx y hy z=> ?_⟩
  · unfold J7
    by_cases ex:∃J,K8 l (m/c.length) c J
    · rw[dif_pos ex];obtain ⟨k,e1,e2⟩:=(h c ec5).parts m1
      have ek:m/c.length=k:=by rw[e1];exact ek8 k (h c ec5).1
      exact ((Classical.choose_spec ex).perm l0 (by rw[ek];exact e2)).nodup_iff.mpr nd.1
    · rw[dif_neg ex];exact ei6
  · exact nd.2.2 x ((br5 l0 m1 (h c ec5)).1 x hx) y ((ak3 l0 m1 w fun c hc=>h c (ec7 _ hc)).1 y hy) z
noncomputable def chF (rs:List (List Int))(m l:Nat):List (List (Int×Int)):=(G9 (y8 l m (t9 rs l)) 40 (K9 rs l)).map (U3 l m)
theorem M7 {rs:List (List Int)}{l:Nat}{r:List Int}(h:r∈K9 rs l):r∈rs/\r.length=l:=by
 unfold K9 at h;obtain ⟨a,b⟩:=ei0.mp h;exact ⟨a,of_decide_eq_true b⟩
theorem az1 (f:List Int->Bool):∀rs:List (List Int),((rs.filter f).flatten).Sublist rs.flatten
 |[]=>List.Sublist.refl _
 |r::rs=>by
  by_cases c:f r=true
  · rw[ek9 c,eg7,eg7];exact (az1 f rs).append_left r
  · rw[el0 c,eg7];exact (az1 f rs).trans (List.sublist_append_right _ _)
theorem U9 (rs:List (List Int))(l:Nat):(K9 rs l).flatten.Sublist rs.flatten:=az1 _ rs
theorem rsb {p:List Int}(tp:x8 p){i:Nat}{rs:List (List Int)}(up:G0 p i rs):∀r∈rs,1<=r.length/\r.length<=p.length:=fun r hr=>by
 obtain ⟨y,L,hy,pr,er,_⟩:=up.ring r hr
 have b:=O0 tp hy (m:=L) fun i i0 i1=>pr.least i i0 i1
 have:=pr.pos;rw[er,q9];omega
theorem ch5 {rs:List (List Int)}{m l:Nat}(h:(K9 rs l).length<=40):(chF rs m l).length=C2 l m (t9 rs l):=by
 unfold chF;rw[eb7,bg3 (l:=l) (fun d hd=>(K0 hd).1) 40 h fun r hr=>(M7 hr).2,bb0];rfl
theorem da8 (laid:List (List Int))(c:List (List (Int×Int))):(U0 laid c).length=laid.length*c.length:=by
 unfold U0
 exact ak2 fun t _=>by rw[eb7]
theorem al8 (p:List Int)(f:Nat->List (List (Int×Int)))(g:Nat->Nat):∀n (ks:List Nat),ks.length<=n->(∀k∈ks,(f k).length=g k)->(U1 p (ks.map f)).length=w9 g ks
 |0,ks,h,_=>by
  obtain rfl:ks=[]:=ej9.mp (by omega);rfl
 |n+1,ks,h,hf=>by
  by_cases c:ks=[]
  · rw[c];rfl
  · have e:=(eq3 c).symm;have hx:ks.getLast c∈ks:=List.getLast_mem c;generalize ks.getLast c=x at e hx
    have hd:∀k∈ks.dropLast,k∈ks:=fun k hk=>by rw[e];exact ef7 _ hk
    have hl:ks.dropLast.length<=n:=by rw[er1];omega
    generalize ks.dropLast=ks' at e hd hl;rw[e,ec4,show [x].map f=[f x] from rfl,bk0,da8,as3,al8 p f g n ks' hl (fun k hk=>hf k (hd k hk)),hf x hx]
theorem ca9 {g:Nat->Nat}:∀{ks:List Nat},w9 g ks≠0->∀k∈ks,1<=g k
 |x::ks,h,k,hk=>by
  have h:g x*w9 g ks≠0:=h
  have a:g x≠0:=fun z=>h (by rw[z,eh4])
  have b:w9 g ks≠0:=fun z=>h (by rw[z,ek3])
  rcases ee0.mp hk with rfl|hk
  · omega
  · exact ca9 b k hk
theorem bg4 {g:Nat->Nat}:∀{ks:List Nat},(∀k∈ks,1<=g k)->1<=w9 g ks
 |[],_=>ec0 _
 |x::ks,h=>ej8 (h x ec5) (bg4 fun k hk=>h k (ec7 _ hk))
theorem dj2 {g:Nat->Nat}{ks:List Nat}(h:∀k∈ks,1<=g k){k:Nat}(hk:k∈ks):g k<=w9 g ks:=by
 induction ks with
 |nil=>cases hk
 |cons x ks ih=>
  show g k<=g x*w9 g ks
  rcases ee0.mp hk with rfl|hk
  · exact ef9 _ (bg4 fun k hk=>h k (ec7 _ hk))
  · exact ed3 (ih (fun k hk=>h k (ec7 _ hk)) hk) (eq1 _ (h x ec5))
theorem cu8 {g:Nat->Nat}{ks:List Nat}(h:∀k∈ks,1<=g k)(i:Nat):w9 g (ks.take i)<=w9 g ks:=by
 have e:=ax9 g (ks.take i) (ks.drop i);rw[ei8] at e;rw[e];exact ef9 _ (bg4 fun k hk=>h k (ep1 hk))
def az2:Sp:=fun vs H Q _=>∃n:Int,vs=[.int n]/\n<=2000/\Q .non H
theorem ap9:m8 ["many"] ["many"] (j6 Y8):=⟨rfl,rfl,rfl,by decide+kernel,rfl,by decide+kernel,by decide+kernel⟩
theorem aq0 {f:Addr}{fd:FuncData}(F:E7 K "must_be_few" "must_be_few" Y8 f fd)(g_MOST_TOLD:∃t,mg "MOST_TOLD"=some (.int 2000 t)):o8 P w K mg base G2 1 f fd ["many"] az2:=by
 refine F.ok ap9 (fun vs H Q E h=> ?_) (fun cdv A outer s H vs Q E hr h=> ?_)
 · obtain ⟨n,rfl,hn,q⟩:=h;rfl
 · obtain ⟨n,rfl,hn,q⟩:=h;obtain ⟨_,m_MOST_TOLD⟩:=g_MOST_TOLD;refine ⟨_,@e8 _ _ _ (@B5 _ _ _ _ _ _ _ _ (@m7 _ _ _ _ _ _ _ _ ba4 (pv 0) (@O4 _ _ (.int 2000) _ _ (by rfl) m_MOST_TOLD ⟨_,rfl⟩ (by decide)) (n0 _)) (@e8 _ _ _ (@bd9 _ _)) (@r6 _)),?_⟩
   try dsimp only[y7,Cx.nox,Cx.wish]
   refine ⟨_,rfl,_,_,rfl,rfl,_,rfl,?_⟩;rw[decide_eq_false (show ¬(2000:Int) < n by omega)];exact B6 q
structure U2 (p:List Int)(m:Nat)(ts:List (List Int)):Prop where
 len:ts.length=M6 p m
 srt:ts.Pairwise (fun r r'=>HT.ba5 r' r=false)
 src:M6 p m=0\/∃ks:List Nat,ks.Nodup/\(∀k∈ks,∃r∈t8 p p.length,r.length=k)/\(∀r∈t8 p p.length,r.length∈ks)/\ts.Perm (U1 p (ks.map (chF (t8 p p.length) m)))
def cl6 (H:Hp)(c:Addr)(ways:List (List (Int×Int))):Prop:=∃us,H c=some (.lst (us.map V.ref))/\M5 (av4 H) us ways
theorem cl6.keep {H H':Hp}{c:Addr}{ways:List (List (Int×Int))}(h:cl6 H c ways)(s:e7 H H'):cl6 H' c ways:=by
 obtain ⟨us,a,b⟩:=h;exact ⟨us,s _ _ a,b.imp fun u es _ e=>(Kp.of s).tab u es e⟩
def bk1:Sp:=fun vs H Q _=>∃(a:Addr) (p:List Int) (m:Nat),vs=[.ref a,.int (m:Int)]/\L4 H a p/\1<=m/\M6 p m<=2000/\∀(o:Addr) (bs:List Addr) (ts:List (List Int)) (H':Hp),H o=none->H' o=some (.lst (bs.map V.ref))->m9 H' bs ts->U2 p m ts->bs.Nodup->(∀b∈bs,H b=none)->o∉bs->Kp H H'->Q (.ref o) H'
theorem N4:m8 ["p","m","many","by_length","choices","length","rings"] ["p","m"] (j6 ae4):=⟨rfl,rfl,rfl,by decide+kernel,rfl,by decide+kernel,by decide+kernel⟩
theorem az3 {f:Addr}{fd:FuncData}(F:E7 K "all_roots" "all_roots" ae4 f fd)(B:Bl mg)(c_how_many_roots:o5 P w K mg base "how_many_roots" 4 ["p","m"] aj7)(c_must_be_few:o5 P w K mg base "must_be_few" 1 ["many"] az2)(c_sort_by_length:o5 P w K mg base "sort_by_length" 1 ["rings"] bb6)(c_walk_rings:o5 P w K mg base "walk_rings" 2 ["p"] aa3)(c_ways_to_join:o5 P w K mg base "ways_to_join" 43 ["rings","right","m"] (ay9 40))(c_right_numbers:o5 P w K mg base "right_numbers" 2 ["length","m","most"] au3)(c_lay_every_way:o5 P w K mg base "lay_every_way" 1 ["p","choices"] cl4):o8 P w K mg base G2 44 f fd ["p","m"] bk1:=by
 refine F.ok N4 (fun vs H Q E h=> ?_) (fun cdv A outer s H vs Q E hr h=> ?_)
 · obtain ⟨a,p,m,rfl,⟨ha,tp,lp⟩,m1,few,q⟩:=h;rfl
 · obtain ⟨a,p,m,rfl,⟨ha,tp,lp⟩,m1,few,q⟩:=h;have hr_how_many_roots:n6 4 _:=hr.mono (by decide);have hr_must_be_few:n6 1 _:=hr.mono (by decide);have hr_sort_by_length:n6 1 _:=hr.mono (by decide);have hr_walk_rings:n6 2 _:=hr.mono (by decide);have hr_ways_to_join:n6 43 _:=hr.mono (by decide);have hr_right_numbers:n6 2 _:=hr.mono (by decide);have hr_lay_every_way:n6 1 _:=hr.mono (by decide);have hu:=Q3 hr;refine ⟨_,@c7 _ _ _ _ _ (@i6 _ _ (2) _ _ _ _ N4.nd rfl (Or.inl rfl) (@j7 _ _ _ _ _ _ _ _ _ _ c_how_many_roots hr_how_many_roots (@c5 _ _ _ _ _ (pv 0) (@c5 _ _ _ _ _ (pv 1) (@c6 _) (by rfl)) (by rfl)) (by rfl) (by decide) (by rfl) (by rfl)) (by rfl) (by trivial)) (@c7 _ _ _ _ _ (@C3 _ _ _ _ (@j7 _ _ _ _ _ _ _ _ _ _ c_must_be_few hr_must_be_few (@c5 _ _ _ _ _ (pv 2) (@c6 _) (by rfl)) (by rfl) (by decide) (by rfl) (by rfl)) (by rfl)) (@c7 _ _ _ _ _ (@B5 _ _ _ _ _ _ _ _ (@m7 _ _ _ _ _ _ _ _ V1 (pv 2) (@g8 _ _ _ _) (n0 _)) (@e8 _ _ _ (@j9 _ _ _ _ (@o6 _ _ _ _ (@c6 _)))) (@r6 _)) (@c7 _ _ _ _ _ (@i6 _ _ (3) _ _ _ _ N4.nd rfl (Or.inl rfl) (@j7 _ _ _ _ _ _ _ _ _ _ c_sort_by_length hr_sort_by_length (@c5 _ _ _ _ _ (@j7 _ _ _ _ _ _ _ _ _ _ c_walk_rings hr_walk_rings (@c5 _ _ _ _ _ (pv 0) (@c6 _) (by rfl)) (by rfl) (by decide) (by rfl) (by rfl)) (@c6 _) (by rfl)) (by rfl) (by decide) (by rfl) (by rfl)) (by rfl) (by trivial)) (@c7 _ _ _ _ _ (@i6 _ _ (4) _ _ _ _ N4.nd rfl (Or.inl rfl) (@o6 _ _ _ _ (@c6 _)) (by rfl) (by trivial)) (@c7 _ _ _ _ _ (@o9 _ _ _ _ _ _ _ _ PassesOwn.never rfl (@bl4 _ _ _ _ (pv 3)) (@i8 _ _ (5) _ N4.nd rfl (Or.inl rfl) (by trivial)) (@c7 _ _ _ _ _ (@i6 _ _ (6) _ _ _ _ N4.nd rfl (Or.inl rfl) (@ao1 _ _ _ _ _ _ hu (pv 3) (pv 5) (fun _ _=>rfl)) (by rfl) (by trivial)) (@e8 _ _ _ (@C3 _ _ _ _ (@C7 _ _ _ _ _ _ _ (pv 4) (@c5 _ _ _ _ _ (@j7 _ _ _ _ _ _ _ _ _ _ c_ways_to_join hr_ways_to_join (@c5 _ _ _ _ _ (pv 6) (@c5 _ _ _ _ _ (@j7 _ _ _ _ _ _ _ _ _ _ c_right_numbers hr_right_numbers (@c5 _ _ _ _ _ (pv 5) (@c5 _ _ _ _ _ (pv 1) (@c5 _ _ _ _ _ (@A0 _ _ _ _ _ B.len (@c5 _ _ _ _ _ (pv 6) (@c6 _) (by rfl)) (by rfl) (by rfl)) (@c6 _) (by rfl)) (by rfl)) (by rfl)) (by rfl) (by decide) (by rfl) (by rfl)) (@c5 _ _ _ _ _ (pv 1) (@c6 _) (by rfl)) (by rfl)) (by rfl)) (by rfl) (by decide) (by rfl) (by rfl)) (@c6 _) (by rfl)) (by rfl) (by rfl) (by rfl) (by rfl) (by rfl)) (by rfl)))) (by intro _;rfl)) (@e8 _ _ _ (@j9 _ _ _ _ (@j7 _ _ _ _ _ _ _ _ _ _ c_lay_every_way hr_lay_every_way (@c5 _ _ _ _ _ (pv 0) (@c5 _ _ _ _ _ (pv 4) (@c6 _) (by rfl)) (by rfl)) (by rfl) (by decide) (by rfl) (by rfl))))))))),?_⟩;refine cl2 ?_;intros
   try dsimp only[y7,Cx.nox,Cx.wish]
   refine ⟨_,rfl,_,rfl,a,p,m,rfl,⟨ha,tp,lp⟩,m1,fun H1 s1=> ?_⟩;refine ⟨_,rfl,_,rfl,by omega,?_⟩;refine ⟨_,rfl,rfl,_,rfl,?_⟩
   by_cases z0:M6 p m=0
   · rw[decide_eq_true (by rw[z0];rfl)];refine O8 ⟨ed7 _,fun o ho=> ?_⟩;exact q o [] [] _ (s1.free ho) c8 ⟨rfl,fun j b r h=>by cases h⟩ ⟨by rw[z0];rfl,List.Pairwise.nil,.inl z0⟩ ei6 (fun b hb=>by cases hb) (fun z=>by cases z) (Kp.of (s1.trans (e7.upd_new ho)))
   rw[decide_eq_false (fun z=>z0 (by have:=V.int.inj z;omega))];refine B6 ?_;refine ⟨_,rfl,a,p,rfl,⟨s1 a _ ha,tp,lp⟩,fun l as rs H2 hl s12 h2l rows up fa nda nla=> ?_⟩;have cl:=ad9 up;have fl:=ab7 tp up;have ers:rs=t8 p p.length:=up.eq;refine ⟨l,as,rs,rfl,h2l,rows,by omega,fun d es H3 hd s23 h3d bl les fre=> ?_⟩;refine ⟨ed7 _,fun C hC=> ?_⟩;have s4:e7 H3 (c9 H3 C (.lst [])):=e7.upd_new hC;have h4C:(c9 H3 C (.lst [])) C=some (.lst (([]:List Addr).map V.ref)):=c8;generalize (c9 H3 C (.lst []))=H4 at s4 h4C ⊢;have hC2:H2 C=none:=s23.free hC;have ndC:d≠C:=g7 h3d hC;refine ⟨_,rfl,d,C8 es,rfl,s4 _ _ h3d,fun o=> ?_⟩;have sB:e7 H2 (c9 H4 d (.frz o (.dK (C8 es)))):=(s23.trans s4).upd_r hd;have hBd:(c9 H4 d (.frz o (.dK (C8 es)))) d=some (.frz o (.dK (C8 es))):=c8
   have kpB:∀c,c≠d->(c9 H4 d (.frz o (.dK (C8 es)))) c=H4 c:=fun c hc=>g6 hc
   have hBC:(c9 H4 d (.frz o (.dK (C8 es)))) C=some (.lst (([]:List Addr).map V.ref)):=by rw[g6 ndC.symm];exact h4C
   generalize (c9 H4 d (.frz o (.dK (C8 es))))=HB at sB hBd kpB hBC ⊢
   have lkv:(C8 es).length=es.length:=by unfold C8;rw[eb7]
   have hprod:w9 (fun l=>C2 l m (t9 rs l)) (es.map (·.1))=M6 p m:=by
     rw[al5 tp up bl.nk bl.key bl.all (f:=fun l=>C2 l m (t9 rs l)) fun u hu=>by show C2 u m (t9 rs u)=1;rw[hu];rfl,ers];rfl
   have pos:=ca9 (g:=fun l=>C2 l m (t9 rs l)) (ks:=es.map (·.1)) (by rw[hprod];exact z0)
   have fl40:∀k∈es.map (·.1),0 < k/\(K9 rs k).length*k<=40/\(K9 rs k).length<=40/\k<=40:=fun k hk=>by
     obtain ⟨r,hr,lr⟩:=bl.key k hk;have rb:=rsb tp up r hr
     have e1:=W7 (l:=k) (rs:=K9 rs k) fun r hr=>(M7 hr).2
     have e2:=(U9 rs k).length_le
     have k1:0 < k:=by omega
     have e3:(K9 rs k).length*k<=40:=by rw[<-e1];omega
     exact ⟨k1,e3,ed3 (ef9 _ k1) e3,by omega⟩
   have s02:e7 H H2:=s1.trans s12
   refine as2 (fun i σ H6=>∃(cs:List Addr) (v5 v6:Option V),σ=[some (.ref a),some (.int (m:Int)),some (.int ((M6 p m:Nat):Int)),some (.ref d),some (.ref C),v5,v6]/\H6 C=some (.lst (cs.map V.ref))/\M5 (cl6 (O3 H6 [C])) cs (((es.take i).map (·.1)).map (chF rs m))/\j5 C HB H6)
     ⟨[],none,none,rfl,hBC,M5.nil,j5.refl _ _⟩ (fun i σ H6 _ ⟨_,_,_,_,_,_,k⟩=>k _ _ hBd ndC) ?_ ?_
   · rintro i k v σ H6 hi ⟨cs,v5,v6,rfl,h6C,atc,kb6⟩;unfold C8 at hi;rw[ec1] at hi
     cases hE:es[i]? with
     |none=>rw[hE] at hi;cases hi
     |some e=>
      rw[hE] at hi;cases hi;have he:=ec8 hE;have hek:e.1∈es.map (·.1):=ed2.mpr ⟨e,he,rfl⟩;have il:i < es.length:=(eb9.mp hE).1;obtain ⟨k1,k2,k3,k4⟩:=fl40 e.1 hek;obtain ⟨bs,hbs,rbs⟩:=bl.row e he;have neC:e.2≠C:=g7 hbs hC;have h6e:H6 e.2=some (.lst (bs.map V.ref)):=kb6 _ _ (by rw[kpB _ (bl.nd e he)];exact s4 _ _ hbs) neC;have h6d:=kb6 _ _ hBd ndC;have s26:e7 H2 H6:=sB.kb kb6 hC2
      have lbs:bs.length=t9 rs e.1:=by rw[rbs.1,bb0]
      have ecnt:=bb0 rs e.1;refine ⟨_,rfl,_,rfl,d,.ref e.2,rfl,.inl ⟨C8 es,Sum.inl (e.1:Int),.inr ⟨o,h6d⟩,rfl,(ct3 bl.nk he).symm⟩,?_⟩;refine ⟨_,rfl,.inl ⟨rfl,_,g9.of h6C⟩,_,rfl,_,rfl,_,rfl,_,rfl,e.2,_,rfl,.inl (g9.of h6e),e.1,m,t9 rs e.1,by rw[eb7,lbs];rfl,by omega,by omega,fun ra H7 hra s7 h7ra=> ?_⟩;obtain ⟨d0,bas⟩:=bc0 (l:=e.1) (m:=m) (n:=t9 rs e.1) m1
      have jle:jf e.1 (y8 e.1 m (t9 rs e.1)) (K9 rs e.1).length<=2000:=by
        rw[ecnt];refine ed3 (show C2 e.1 m (t9 rs e.1)<=_ from dj2 (g:=fun l=>C2 l m (t9 rs l)) pos hek) ?_;rw[hprod];exact few
      have jne:jf e.1 (y8 e.1 m (t9 rs e.1)) (K9 rs e.1).length≠0:=by
        rw[ecnt];have:1<=C2 e.1 m (t9 rs e.1):=pos e.1 hek;intro y;have y:C2 e.1 m (t9 rs e.1)=0:=y;omega
      have fw:=cu6 (l:=e.1) bas k1 40 k3 (eq8 ecnt) (fun r hr=>(M7 hr).2) (cu5 bas _ _ (ec0 _) jne) jle;refine ⟨_,rfl,e.2,bs,K9 rs e.1,ra,y8 e.1 m (t9 rs e.1),e.1,m,rfl,s7 _ _ h6e,t6 rbs fun b _ u x=>s7 _ _ (s26 _ _ x),h7ra,k3,fun r hr=>(M7 hr).2,k1,k2,(U9 rs e.1).nodup up.nd,m1,fun d hd=>W8 hd,fw,fun oo us H8 hoo s8 h8o und ufr atw=> ?_⟩;have s68:=s7.trans s8
      have lcs:cs.length<=40:=by
        have:=atc.1;rw[eb7,eb7,ee1] at this;omega
      have h7C:=s7 _ _ h6C;refine ⟨C,_,_,rfl,rfl,s68 _ _ h6C,t5 (by rw[eb7];omega),?_⟩;rw[show cs.map V.ref++[V.ref oo]=(cs++[oo]).map V.ref by rw[ec4];rfl];refine ⟨cs++[oo],_,_,rfl,c8,?_,(kb6.trans (s68.but C)).upd_a⟩;rw[bn4 ec5,j8 hE,ec4,ec4];refine M5.snoc (atc.imp fun c ways _ h=>h.keep (L5 s68)) ?_
      have nC:∀u,H7 u=none->u∉[C]:=fun u hu z=>by rw[ec9.mp z,h7C] at hu;cases hu
      refine ⟨us,by rw[P3 (nC oo hoo)];exact h8o,?_⟩;unfold chF;refine ⟨by rw[atw.1,eb7],fun j u x e1 e2=> ?_⟩;rw[ec1] at e2;obtain ⟨w,hw,ww⟩:=atw.get e1;rw[hw] at e2;cases e2;refine .inl ?_;rw[P3 (nC u (ufr u (ec8 e1)))];exact ww
   · rintro σ H6 ⟨cs,v5,v6,rfl,h6C,atc,kb6⟩;rw[lkv,ef3] at atc;have s26:e7 H2 H6:=sB.kb kb6 hC2;have s06:=s02.trans s26
     have cntk:∀k∈es.map (·.1),(chF rs m k).length=C2 k m (t9 rs k):=fun k hk=>ch5 (fl40 k hk).2.2.1
     refine ⟨_,rfl,_,rfl,a,C,p,cs,(es.map fun (x:Nat×Addr)=>x.1).map (chF rs m),rfl,s06 _ _ ha,lp,h6C,atc.imp fun c ways _ h=>h.keep (ca2 _ _),fun ways hw x hx=> ?_,fun i=> ?_,fun oo bs ts H7 hoo h7o rowsB pr srt bnd bfr ob kp=> ?_⟩
     · obtain ⟨k,hk,rfl⟩:=ed2.mp hw;obtain ⟨k1,k2,k3,k4⟩:=fl40 k hk;obtain ⟨w,hw',rfl⟩:=ed2.mp hx;have wo:=bj8 (l:=k) (m:=m) (ds:=y8 k m (t9 rs k)) (fun d hd=>(K0 hd).1) 40 k3 (fun r hr=>(M7 hr).2) hw'
       have rr:∀c∈w,S0 k m c.length:=fun c hc=>W8 (wo.right c hc).1
       have fnd:=(U9 rs k).nodup up.nd;refine ⟨ca8 k1 m1 w rr (wo.perm.nodup_iff.mpr fnd),fun e he=> ?_⟩;have em:=(ak3 k1 m1 w rr).1 e.1 (ed2.mpr ⟨e,he,rfl⟩);have em:=(U9 rs k).mem (wo.perm.mem_iff.mp em);obtain ⟨r,hr,hxr⟩:=ee6.mp em;obtain ⟨y,L,hy,pr2,er,_⟩:=up.ring r hr;rw[er] at hxr;exact V8 tp hy _ hxr
     · rw[<-ez2,al8 p (chF rs m) (fun l=>C2 l m (t9 rs l)) _ _ (ec0 _) fun k hk=>cntk k (ei5 hk)];refine ed3 (cu8 pos i) ?_;rw[hprod];exact few
     · refine q oo bs ts H7 (s06.free hoo) h7o rowsB ⟨?_,srt,.inr ⟨es.map (·.1),bl.nk,by rw[<-ers];exact bl.key,by rw[<-ers];exact bl.all,by rw[<-ers];exact pr⟩⟩ bnd (fun b hb=>s06.free (bfr b hb)) ob ((Kp.of s06).trans kp);rw[pr.length_eq,al8 p (chF rs m) (fun l=>C2 l m (t9 rs l)) _ _ (ec0 _) cntk,hprod]
end
end My
namespace My
open PySem L2 Mth
section
def Rg (p:List Int)(l:Nat)(r:List Int):Prop:=∃y,In p y/\K7 p y l/\r=l6 p y l
theorem Rg.rot {p:List Int}(t:x8 p){l:Nat}{r:List Int}(h:Rg p l r)(b:Nat)(hb:b < l):Rg p l (r.drop b++r.take b):=by
 obtain ⟨y,hy,py,rfl⟩:=h;refine ⟨it p b y,P4 t hy b,py.shift t hy b,?_⟩
 refine eg4 fun i=> ?_
 have e1:∀j,(l6 p y l)[j]? =if j < l then some (it p j y) else none:=fun j=>by
   unfold l6;rw[ec1]
   by_cases c:j < l
   · rw[eg8 c,if_pos c];rfl
   · rw[ed1 (by rw[ee9];omega),if_neg c];rfl
 have e2:(l6 p (it p b y) l)[i]? =if i < l then some (it p i (it p b y)) else none:=by
   unfold l6;rw[ec1]
   by_cases c:i < l
   · rw[eg8 c,if_pos c];rfl
   · rw[ed1 (by rw[ee9];omega),if_neg c];rfl
 rw[e2,<-J5]
 by_cases c:i < l - b
 · rw[ee4 (by rw[eg1,q9];exact c),eo5,e1,if_pos (by omega),if_pos (by omega),ej4]
 · rw[ee8 (by rw[eg1,q9];omega),eg1,q9,es7]
   by_cases c2:i < l
   · rw[if_pos (by omega),e1,if_pos (by omega),if_pos c2]
     have e3:i+b=(i - (l - b))+l:=by omega
     rw[e3,J5,py.back]
   · rw[if_neg (by omega),if_neg c2]
theorem ch6 {p:List Int}(t:x8 p){l:Nat}{rs:List (List Int)}(h:∀r∈rs,Rg p l r):∀(i:Nat) {y:List Int×List (List Int)},i<=rs.length->y∈L6 rs i->Rg p l y.1
 |0,y,_,z=>by cases z
 |i+1,y,hi,z=>by
  rcases ed0.mp z with z|z
  · exact ch6 t h i (by omega) z
  · obtain ⟨b,hb,rfl⟩:=ed2.mp z
    have il:i < rs.length:=by omega
    have eg:rs.getD i []=rs[i]:=by rw[ec3,eb8 il];rfl
    have hr:=h _ (ef2 il);have hb:=eg0.mp hb;show Rg p l ((rs.getD i []).drop b++(rs.getD i []).take b);rw[eg] at hb ⊢
    have hl:(rs[i]).length=l:=by
      obtain ⟨y,_,_,e⟩:=hr;rw[e,q9]
    exact hr.rot t b (by omega)
theorem af4 {p:List Int}{l:Nat}{r:List Int}(h:Rg p l r):r.length=l:=by
 obtain ⟨y,_,_,e⟩:=h;rw[e,q9]
theorem ak4 {p:List Int}(t:x8 p){l:Nat}{rs:List (List Int)}(h:∀r∈rs,Rg p l r):∀(k:Nat) {x:List (List Int)×List (List Int)},k < rs.length->x∈C0 rs k->∀r∈x.1,Rg p l r
 |0,x,hk,z,r,hr=>by
  rw[ec9.mp z] at hr;have hr:r∈[rs.getD 0 []]:=hr;rw[ec9.mp hr,ec3,eb8 hk];exact h _ (ef2 hk)
 |k+1,x,hk,z,r,hr=>by
  obtain ⟨x',h',z⟩:=ei4.mp z;obtain ⟨y,hy,rfl⟩:=ed2.mp z;have o:=L8 (fun r hr=>af4 (h r hr)) k (by omega) h'
  rcases ed0.mp hr with w|w
  · exact ak4 t h k (by omega) h' r w
  · rw[ec9.mp w];exact ch6 t (fun r hr=>h r (o.rows2 r hr)) _ (ec0 _) hy
theorem cu9 {p:List Int}(t:x8 p){l:Nat}{ds:List Nat}(hd:∀d∈ds,1<=d):∀(f:Nat) {rs:List (List Int)} {w:List (List (List Int))},rs.length<=f->(∀r∈rs,Rg p l r)->w∈G9 ds f rs->∀c∈w,∀r∈c,Rg p l r
 |0,rs,w,hf,hl,h,c,hc=>by rw[ec9.mp h] at hc;cases hc
 |f+1,rs,w,hf,hl,h,c,hc=>by
  unfold G9 at h
  by_cases c0:rs.length=0
  · rw[if_pos c0] at h;rw[ec9.mp h] at hc;cases hc
  · rw[if_neg c0] at h;obtain ⟨d,hdm,h⟩:=ei4.mp h;unfold X7 at h
    by_cases c2:d<=rs.length
    · rw[if_pos c2] at h;obtain ⟨x,hx,h⟩:=ei4.mp h;obtain ⟨w',hw',rfl⟩:=ed2.mp h;have d1:=hd d hdm;have o:=L8 (fun r hr=>af4 (hl r hr)) (d - 1) (by omega) hx
      rcases ed0.mp hc with z|z
      · exact cu9 t hd f (by have:=o.left;omega) (fun r hr=>hl r (o.rows2 r hr)) hw' c z
      · rw[ec9.mp z];exact ak4 t hl (d - 1) (by omega) hx
    · rw[if_neg c2] at h;cases h
theorem cv0 {l k:Nat}(l0:0 < l)(c:ef6 l k=1){Rs:List (List Int)}(h:∀r∈Rs,r.length=l):∃J,K8 l k Rs J:=by
 have it_:=as4 (d:=Rs.length) l0 c;have pl:=ad2 Rs.length l k;have fl:=W7 h;refine ⟨(ef4 (Rs.length*l)).map fun (i:Nat)=>Rs.flatten.getD ((V9 Rs.length l k).idxOf (i:Int)) 0,by rw[eb7,ee9],?_⟩
 refine eg4 fun n=> ?_
 rw[ec1,ec1]
 by_cases hn:n < Rs.length*l
 · have hp:n < (V9 Rs.length l k).length:=by omega
   rw[eb8 hp,eb8 (show n < Rs.flatten.length by omega)];have v0:=it_.lo _ (ef2 hp);have v1:=it_.hi _ (ef2 hp);show some (C9 _ _)=some (some _)
   congr 1
   unfold C9;rw[ec1,eg8 (by omega)];show some (Rs.flatten.getD ((V9 Rs.length l k).idxOf _) 0)=_;rw[show (((V9 Rs.length l k)[n].toNat:Nat):Int)=(V9 Rs.length l k)[n] by omega,it_.nd.idxOf_getElem n hp,ec3,eb8 (show n < Rs.flatten.length by omega)];rfl
 · rw[ed1 (by omega),ed1 (by omega)];rfl
theorem bg5 {l m:Nat}{c:List (List Int)}(l0:0 < l)(m1:1<=m)(r:S0 l m c.length)(h:∀x∈c,x.length=l):∃k,m=c.length*k/\ef6 l k=1/\K8 l k c (J7 l m c):=by
 obtain ⟨k,e1,e2⟩:=r.parts m1;obtain ⟨J,j⟩:=cv0 l0 e2 h;exact ⟨k,e1,e2,by rw[bg1 l0 r.1 e1 e2 j];exact j⟩
inductive Pkd:List (List (Int×Int))->List (List (List (Int×Int)))->Prop
 |nil:Pkd [] []
 |cons {es:List (Int×Int)} {ess:List (List (Int×Int))} {ways:List (List (Int×Int))} {y9:List (List (List (Int×Int)))}:es∈ways->Pkd ess y9->Pkd (es::ess) (ways::y9)
theorem cb0:∀(y9:List (List (List (Int×Int)))) (laid:List (List Int)) {t:List Int},t∈y9.foldl U0 laid->∃t0∈laid,∃ess,Pkd ess y9/\t=B8 t0 ess.flatten
 |[],laid,t,h=>⟨t,h,[],.nil,rfl⟩
 |c::y9,laid,t,h=>by
  obtain ⟨t1,h1,ess,pk,e⟩:=cb0 y9 (U0 laid c) h;obtain ⟨t0,h0,z⟩:=ei4.mp h1;obtain ⟨es,hes,rfl⟩:=ed2.mp z;refine ⟨t0,h0,es::ess,.cons hes pk,?_⟩;rw[e,eg7];unfold B8;rw[et2]
theorem bk2:∀(es:List (Int×Int)) (t:List Int) {x:Int},0<=x->(∀e∈es,0<=e.1)->x∉es.map (·.1)->C9 (B8 t es) x=C9 t x
 |[],t,x,_,_,_=>rfl
 |e::es,t,x,x0,lo,h=>by
  rw[eg6,ee0,not_or] at h;show C9 (B8 (t.set e.1.toNat e.2) es) x=_;rw[bk2 es _ x0 (fun e he=>lo e (ec7 _ he)) h.2,Y4 x0 (lo e ec5) h.1]
theorem az4:∀(es:List (Int×Int)) (t:List Int),(es.map (·.1)).Nodup->(∀e∈es,0<=e.1/\e.1 < (t.length:Int))->∀e∈es,C9 (B8 t es) e.1=some e.2
 |[],_,_,_,e,h=>by cases h
 |x::es,t,nd,b,e,h=>by
  rw[eg6,eg5] at nd;have bx:=b x ec5;show C9 (B8 (t.set x.1.toNat x.2) es) e.1=_
  rcases ee0.mp h with rfl|h
  · rw[bk2 es _ bx.1 (fun e he=>(b e (ec7 _ he)).1) nd.1];exact ad1 (by omega)
  · exact az4 es _ nd.2 (fun e he=>by rw[en5];exact b e (ec7 _ he)) e h
end
end My
namespace My
open PySem L2 Mth
section
theorem bn8 {p:List Int}{rs:List (List Int)}(up:G0 p p.length rs){r:List Int}(hr:r∈rs):Rg p r.length r:=by
 obtain ⟨y,L,hy,pr,er,_⟩:=up.ring r hr;exact ⟨y,hy,by rw[er,q9];exact pr,by rw[er,q9]⟩
theorem aq1 {p:List Int}(t:x8 p){l:Nat}{r:List Int}(h:Rg p l r){x:Int}(hx:x∈r):In p x/\K7 p x l/\X2 p x=l:=by
 obtain ⟨y,hy,py,rfl⟩:=h;obtain ⟨j,_,rfl⟩:=G6.mp hx;have:=py.shift t hy j;exact ⟨P4 t hy j,this,ai6 this⟩
structure dz7 (p:List Int)(rs:List (List Int))(m k:Nat)(es:List (Int×Int))(w:List (List (List Int))):Prop where
 eq:es=U3 k m w
 perm:(w.map eq9).flatten.Perm (K9 rs k).flatten
 right:∀c∈w,S0 k m c.length
 rg:∀c∈w,∀r∈c,Rg p k r
 nd:(es.map (·.1)).Nodup
 keys:∀x∈es.map (·.1),In p x/\X2 p x=k
theorem bu0 {p:List Int}(t:x8 p)(lp:p.length<=40){rs:List (List Int)}(up:G0 p p.length rs){m k:Nat}(m1:1<=m)(k1:0 < k){es:List (Int×Int)}(h:es∈chF rs m k):∃w,dz7 p rs m k es w:=by
 obtain ⟨w,hw,rfl⟩:=ed2.mp h
 have fr:∀r∈K9 rs k,Rg p k r:=fun r hr=>by
   have:=bn8 up (M7 hr).1;rw[(M7 hr).2] at this;exact this
 have fl:=ab7 t up
 have e1:=W7 (l:=k) (rs:=K9 rs k) fun r hr=>(M7 hr).2
 have e2:=(U9 rs k).length_le;have k3:(K9 rs k).length<=40:=ed3 (ef9 _ k1) (by rw[<-e1];omega);have wo:=bj8 (l:=k) (m:=m) (ds:=y8 k m (t9 rs k)) (fun d hd=>(K0 hd).1) 40 k3 (fun r hr=>(M7 hr).2) hw
 have rr:∀c∈w,S0 k m c.length:=fun c hc=>W8 (wo.right c hc).1
 have fnd:=(U9 rs k).nodup up.nd;refine ⟨w,rfl,wo.perm,rr,cu9 t (fun d hd=>(K0 hd).1) 40 k3 fr hw,ca8 k1 m1 w rr (wo.perm.nodup_iff.mpr fnd),fun x hx=> ?_⟩;obtain ⟨r,hr,hxr⟩:=ee6.mp (wo.perm.mem_iff.mp ((ak3 k1 m1 w rr).1 x hx));obtain ⟨a,_,b⟩:=aq1 t (fr r hr) hxr;exact ⟨a,b⟩
theorem bg6 {p:List Int}{f:Nat->List (List (Int×Int))}:∀(ks:List Nat) {ess:List (List (Int×Int))},ks.Nodup->(∀k∈ks,∀es∈f k,(es.map (·.1)).Nodup/\∀x∈es.map (·.1),In p x/\X2 p x=k)->Pkd ess (ks.map f)->(ess.flatten.map (·.1)).Nodup/\(∀x∈ess.flatten.map (·.1),In p x/\X2 p x∈ks)/\∀k∈ks,∃es∈ess,es∈f k
 |[],ess,_,_,pk=>by
  cases pk;exact ⟨ei6,(fun x hx=>by cases hx),(fun k hk=>by cases hk)⟩
 |k::ks,ess,nk,h,pk=>by
  cases pk with
  |cons hes pk=>
   rename_i es ess;rw[eg5] at nk;obtain ⟨a,b,c⟩:=bg6 ks nk.2 (fun k hk=>h k (ec7 _ hk)) pk;obtain ⟨d,e⟩:=h k ec5 es hes;rw[eg7,ec4];refine ⟨?_,fun x hx=> ?_,fun k' hk'=> ?_⟩
   · rw[eh0];refine ⟨d,a,fun x hx y hy z=> ?_⟩;have e1:=(e x hx).2;have e2:=(b y hy).2;rw[<-z,e1] at e2;exact nk.1 e2
   · rcases ed0.mp hx with z|z
     · exact ⟨(e x z).1,by rw[(e x z).2];exact ec5⟩
     · exact ⟨(b x z).1,ec7 _ (b x z).2⟩
   · rcases ee0.mp hk' with rfl|hk'
     · exact ⟨es,ec5,hes⟩
     · obtain ⟨es',h1,h2⟩:=c k' hk';exact ⟨es',ec7 _ h1,h2⟩
theorem br9 {p:List Int}{m:Nat}(tp:x8 p)(lp:p.length<=40)(m1:1<=m){ks:List Nat}(nk:ks.Nodup)(h1:∀k∈ks,∃r∈t8 p p.length,r.length=k)(h2:∀r∈t8 p p.length,r.length∈ks){t:List Int}(ht:t∈U1 p (ks.map (chF (t8 p p.length) m))):x8 t/\J3 t (m:Int) p:=by
 have up:=Z2 tp;generalize t8 p p.length=rs at up h1 h2 ht
 have k0:∀k∈ks,0 < k:=fun k hk=>by
   obtain ⟨r,hr,e⟩:=h1 k hk;have:=(rsb tp up r hr).1;omega
 have hlen:=br6 p _ t ht;obtain ⟨t0,h0,ess,pk,et⟩:=cb0 _ _ ht;rw[ec9.mp h0] at et
 obtain ⟨knd,kin,kall⟩:=bg6 (p:=p) ks nk (fun k hk es hes=>by
   obtain ⟨w,o⟩:=bu0 tp lp up m1 (k0 k hk) hes
   exact ⟨o.nd,o.keys⟩) pk
 have put:=az4 ess.flatten p knd fun e he=>(kin e.1 (ed2.mpr ⟨e,he,rfl⟩)).1
 rw[<-et] at put
 have key:∀x,In p x->∃J,O5 t J/\bx1 p m J x:=fun x hx=>by
   obtain ⟨r0,hr0,hxr⟩:=ee6.mp (up.all x hx.1 hx.2);obtain ⟨es,hes,hef⟩:=kall r0.length (h2 r0 hr0);have k1:=k0 _ (h2 r0 hr0);obtain ⟨w,o⟩:=bu0 tp lp up m1 k1 hef;have xf:x∈(K9 rs r0.length).flatten:=ee6.mpr ⟨r0,by unfold K9;exact ei0.mpr ⟨hr0,decide_eq_true rfl⟩,hxr⟩;obtain ⟨cf,hcf,hxc⟩:=ee6.mp (o.perm.mem_iff.mpr xf);obtain ⟨c,hc,rfl⟩:=ed2.mp hcf;obtain ⟨row,hrow,hxrow⟩:=ee6.mp hxc;obtain ⟨a,ha⟩:=ef8.mp hrow;have al:=(eb9.mp ha).1
   have rows:∀r∈c,r.length=r0.length:=fun r hr=>af4 (o.rg c hc r hr)
   obtain ⟨kk,e1,e2,js⟩:=bg5 k1 m1 (o.right c hc) rows;obtain ⟨y,hy,py,er⟩:=o.rg c hc row hrow;rw[er] at hxrow;obtain ⟨b,hb,ex⟩:=G6.mp hxrow;have pm:=js.perm k1 e2
   have cnd:c.flatten.Nodup:=by
     have n1:((w.map eq9).flatten).Nodup:=o.perm.nodup_iff.mpr ((U9 rs _).nodup up.nd);exact (List.pairwise_flatten.mp n1).1 _ (ed2.mpr ⟨c,hc,rfl⟩)
   refine ⟨J7 r0.length m c,⟨fun z=> ?_,pm.nodup_iff.mpr cnd,fun z hz=> ?_,fun j hj=> ?_⟩,r0.length,kk,c,a,b,y,k1,e1,e2,rows,js,al,hb,hy,py,by rw[ec3,ha];exact er,ex⟩
   · have:=js.len;rw[z] at this;have p1:0 < c.length*r0.length:=ej8 (by omega) k1;rw[<-this] at p1;exact absurd p1 (by simp)
   · obtain ⟨r,hr,hzr⟩:=ee6.mp (pm.mem_iff.mp hz);exact (aq1 tp (o.rg c hc r hr) hzr).1.1
   · refine put ((J7 r0.length m c).getD j 0,(J7 r0.length m c).getD ((j+1)%(J7 r0.length m c).length) 0) (ee6.mpr ⟨es,hes,?_⟩);rw[o.eq];exact ei4.mpr ⟨c,hc,ed2.mpr ⟨j,eg0.mpr hj,rfl⟩⟩
 have qs:∀n,n<=p.length->∃qs:List (List Int),(∀J∈qs,O5 t J)/\∀x:Int,0<=x->x < (n:Int)->∃J∈qs,bx1 p m J x:=fun n=>by
   induction n with
   |zero=>exact fun _=>⟨[],(fun J hJ=>by cases hJ),fun x a b=>by omega⟩
   |succ n ih=>
    intro hn;obtain ⟨qs,a,b⟩:=ih (by omega);obtain ⟨J,c,d⟩:=key (n:Int) ⟨by omega,by omega⟩;refine ⟨J::qs,fun J' hJ'=> ?_,fun x x0 x1=> ?_⟩
    · rcases ee0.mp hJ' with rfl|z
      · exact c
      · exact a J' z
    · by_cases e:x=(n:Int)
      · rw[e];exact ⟨J,ec5,d⟩
      · obtain ⟨J',h1,h2⟩:=b x x0 (by omega);exact ⟨J',ec7 _ h1,h2⟩
 obtain ⟨qs,a,b⟩:=qs p.length (ec0 _)
 exact df2 tp hlen a fun x hx=>b x hx.1 hx.2
theorem U2.root {p:List Int}{m:Nat}{ts:List (List Int)}(h:U2 p m ts)(tp:x8 p)(lp:p.length<=40)(m1:1<=m):∀t∈ts,x8 t/\J3 t (m:Int) p:=fun t ht=>by
 rcases h.src with z|⟨ks,nk,h1,h2,pr⟩
 · have:=h.len;rw[z] at this;rw[ej9.mp this] at ht;cases ht
 · exact br9 tp lp m1 nk h1 h2 (pr.mem_iff.mp ht)
end
end My
namespace My
open PySem L2 Mth
section
theorem af5 {α β:Type}{f:α->List β}{q:β->Bool}{g:α->Bool}:∀{xs:List α},(∀x∈xs,(f x).countP q=if g x=true then 1 else 0)->(xs.flatMap f).countP q=xs.countP g
 |[],_=>rfl
 |x::xs,h=>by
  rw[eh1,es6,h x ec5,af5 fun y hy=>h y (ec7 _ hy),ek4,ej4]
theorem cv5 {z:Int}:∀{xs:List Int},xs.Nodup->z∈xs->xs.countP (fun x=>decide (x=z))=1
 |x::xs,nd,h=>by
  rw[eg5] at nd;rw[ek4]
  by_cases c:x=z
  · rw[if_pos (decide_eq_true c),ek5.mpr fun y hy e=>nd.1 (by rw[c,<-of_decide_eq_true e];exact hy)]
  · rw[if_neg (by rw[decide_eq_false c];decide),cv5 nd.2 ((ee0.mp h).resolve_left fun e=>c e.symm)]
theorem ch8 {z:Nat}:∀{xs:List Nat},xs.Nodup->z∈xs->xs.countP (fun x=>decide (x=z))=1
 |x::xs,nd,h=>by
  rw[eg5] at nd;rw[ek4]
  by_cases c:x=z
  · rw[if_pos (decide_eq_true c),ek5.mpr fun y hy e=>nd.1 (by rw[c,<-of_decide_eq_true e];exact hy)]
  · rw[if_neg (by rw[decide_eq_false c];decide),ch8 nd.2 ((ee0.mp h).resolve_left fun e=>c e.symm)]
theorem bk3 (rs:List (List Int)):∀i,i<=rs.length->(L6 rs i).map (fun y=>y.1.getD 0 0)=(rs.take i).flatten
 |0,_=>rfl
 |i+1,h=>by
  show (L6 rs i++af2 rs i (rs.getD i [])).map _=_
  have il:i < rs.length:=by omega
  have eg:rs.getD i []=rs[i]:=by rw[ec3,eb8 il];rfl
  rw[ec4,bk3 rs i (by omega),ez1,eb8 il,ej0]
  congr 1
  show _=[rs[i]].flatten;rw[ej3,eg];unfold af2;rw[eh3]
  refine eg4 fun b=> ?_
  rw[ec1]
  by_cases hb:b < rs[i].length
  · rw[eg8 hb,eb8 hb];show some ((rs[i].drop b++rs[i].take b).getD 0 0)=_;rw[ec3,ee4 (by rw[eg1];omega),eo5,ej1,eb8 hb];rfl
  · rw[ed1 (by rw[ee9];omega),ed1 (by omega)];rfl
theorem da9 {rs:List (List Int)}(nd:rs.flatten.Nodup){z:Int}(hz:z∈rs.flatten):(L6 rs rs.length).countP (fun y=>decide (y.1.getD 0 0=z))=1:=by
 have e:=bk3 rs rs.length (ec0 _);rw[ef3] at e
 have h:((L6 rs rs.length).map (fun y=>y.1.getD 0 0)).countP (fun x=>decide (x=z))=1:=by
   rw[e];exact cv5 nd hz
 rw[eo7] at h;exact h
theorem aw0:∀{a b:List Int},a.Nodup->(∀x∈a,x∈b)->a.length<=b.length
 |[],_,_,_=>ed7 _
 |x::a,b,nd,h=>by
  rw[eg5] at nd;have hx:=h x ec5
  have:=aw0 (b:=b.erase x) nd.2 fun y hy=>(List.mem_erase_of_ne (fun (e:y=x)=>nd.1 (by rw[<-e];exact hy))).mpr (h y (ec7 _ hy))
  rw[List.length_erase_of_mem hx] at this;have:=List.length_pos_of_mem hx;rw[eg9];omega
def hdC (c:List (List Int)):List Int:=c.map fun r=>r.getD 0 0
theorem ch9 {p:List Int}{l:Nat}(l0:0 < l){r:List Int}(h:Rg p l r):r=l6 p (r.getD 0 0) l/\In p (r.getD 0 0)/\K7 p (r.getD 0 0) l:=by
 obtain ⟨y,hy,py,rfl⟩:=h
 have e:(l6 p y l).getD 0 0=y:=by rw[ec3,aa0 l0];rfl
 rw[e];exact ⟨rfl,hy,py⟩
theorem av5 {p:List Int}{l:Nat}(l0:0 < l){c:List (List Int)}(h:∀r∈c,Rg p l r):c=(hdC c).map fun z=>l6 p z l:=by
 unfold hdC;rw[eh3]
 conv=>lhs;rw[<-eq6 c]
 exact eh8 fun r hr=>(ch9 l0 (h r hr)).1
theorem bg7 {l:Nat}{rs:List (List Int)}(hl:∀r∈rs,r.length=l)(nd:rs.flatten.Nodup){k:Nat}{x:List (List Int)×List (List Int)}(hk:k < rs.length)(hx:x∈C0 rs k):x.1.flatten.Nodup/\x.2.flatten.Nodup/\(∀u∈x.1.flatten,u∉x.2.flatten)/\∀u,u∈rs.flatten↔u∈x.1.flatten\/u∈x.2.flatten:=by
 have o:=L8 hl k hk hx;have n:=o.perm.nodup_iff.mpr nd;rw[eh0] at n;exact ⟨n.1,n.2.1,fun u h1 h2=>n.2.2 u h1 u h2 rfl,fun u=>by rw[<-o.perm.mem_iff,ed0]⟩
theorem bs1 {p:List Int}(tp:x8 p){l:Nat}(l0:0 < l){rs:List (List Int)}(hr:∀r∈rs,Rg p l r)(nd:rs.flatten.Nodup){z:Nat->Int}(h0:(rs.getD 0 []).getD 0 0=z 0){n:Nat}(hz:∀a,a < n->z a∈rs.flatten)(ap:∀a b,a < b->b < n->z b∉l6 p (z a) l):∀k,k < rs.length->k < n->(C0 rs k).countP (fun x=>decide (hdC x.1=(ef4 (k+1)).map z))=1
 |0,hk,_=>by
  show List.countP _ [([rs.getD 0 []],rs.drop 1)]=1;rw[List.countP_singleton,if_pos];refine decide_eq_true ?_;show [(rs.getD 0 []).getD 0 0]=[z 0];rw[h0]
 |k+1,hk,hn=>by
  show ((C0 rs k).flatMap nxC).countP _=1;rw[af5 (g:=fun x=>decide (hdC x.1=(ef4 (k+1)).map z)),bs1 tp l0 hr nd h0 hz ap k (by omega) (by omega)];intro x hx;have o:=L8 (fun r hr'=>af4 (hr r hr')) k (by omega) hx;obtain ⟨n1,n2,n3,n4⟩:=bg7 (fun r hr'=>af4 (hr r hr')) nd (by omega) hx;unfold nxC;rw[eo7]
  by_cases c:hdC x.1=(ef4 (k+1)).map z
  · rw[if_pos (decide_eq_true c)]
    have hzk:z (k+1)∈x.2.flatten:=by
      refine ((n4 _).mp (hz (k+1) hn)).resolve_left fun w=> ?_
      rw[av5 l0 (ak4 tp hr k (by omega) hx),c,eh3] at w;obtain ⟨r,hr',hw⟩:=ee6.mp w;obtain ⟨a,ha,rfl⟩:=ed2.mp hr';exact ap a (k+1) (eg0.mp ha) hn hw
    refine Eq.trans ?_ (da9 n2 hzk)
    refine eq7 fun y hy=> ?_
    show decide (hdC (x.1++[y.1])=(ef4 (k+1+1)).map z)=true↔decide (y.1.getD 0 0=z (k+1))=true;rw[el8,ec4,decide_eq_true_iff,decide_eq_true_iff];unfold hdC at c ⊢;rw[ec4,c];constructor
    · intro e;have:=List.append_cancel_left e;exact (List.cons.inj this).1
    · intro e;show _++[y.1.getD 0 0]=_++[z (k+1)];rw[e]
  · rw[if_neg (by rw[decide_eq_false c];decide),ek5];intro y hy e;have e:hdC (x.1++[y.1])=(ef4 (k+1+1)).map z:=of_decide_eq_true e;unfold hdC at c e;rw[el8,ec4,ec4] at e;refine c (List.append_inj e ?_).1;rw[eb7,eb7,ee9,o.len]
end
end My
namespace My
open PySem L2 Mth
section
theorem dq6 {t:List Int}(tt:x8 t){x:Int}(hx:In t x){L:Nat}(h:K7 t x L){i j:Nat}(hi:i < L)(hj:j < L)(e:it t i x=it t j x):i=j:=by
 have key:∀{i j:Nat},i<=j->j < L->it t i x=it t j x->i=j:=fun {i j} c hj e=>by
   have e2:it t (j - i) (it t i x)=it t i x:=by rw[<-J5,en3 c,e]
   obtain ⟨q,hq⟩:=cf2 (h.shift tt hx i) e2
   rcases q with _|q
   · omega
   · rw[ex9] at hq;omega
 rcases Nat.le_total i j with c|c
 · exact key c hj e
 · exact (key c hi e.symm).symm
theorem bc1 {p t:List Int}{m:Nat}(tt:x8 t)(pw:J3 t (m:Int) p){x:Int}(hx:In t x)(i:Nat):it p i x=it t (m*i) x:=by
 obtain ⟨L,hL⟩:=ax5 tt hx;exact bi3 tt pw hx hL (by rw[Int.sub_self];rfl) i
structure aq2 (t:List Int)(m l:Nat)(x:Int)(d k:Nat):Prop where
 per:K7 t x (d*l)
 d1:1<=d
 em:m=d*k
 co:ef6 l k=1
 right:ef6 (d*l) m=d
theorem dj3 {p t:List Int}{m l:Nat}(tt:x8 t)(pw:J3 t (m:Int) p){x:Int}(hx:In t x)(hl:K7 p x l):∃d k,aq2 t m l x d k:=by
 obtain ⟨L,hL⟩:=ax5 tt hx;have el:=hl.uniq (df3 tt pw hx hL (m:=m) (by rw[Int.sub_self];rfl));have gp:0 < ef6 L m:=Nat.gcd_pos_of_pos_left _ hL.pos;have cp:ef6 (L/ef6 L m) (m/ef6 L m)=1:=ev2 gp
 have e1:L=ef6 L m*l:=by rw[el,er7 (ex4 L m)]
 have e2:m=ef6 L m*(m/ef6 L m):=(er7 (eo8 L m)).symm;refine ⟨ef6 L m,m/ef6 L m,by rw[<-e1];exact hL,gp,e2,by rw[el];exact cp,by rw[<-e1]⟩
theorem aq2.apart {p t:List Int}{m l:Nat}(tt:x8 t)(pw:J3 t (m:Int) p){x:Int}(hx:In t x){d k:Nat}(h:aq2 t m l x d k)(l0:0 < l){a b:Nat}(hab:a < b)(hb:b < d):it t b x∉l6 p (it t a x) l:=fun w=>by
 obtain ⟨j,hj,e⟩:=G6.mp w;rw[bc1 tt pw (P4 tt hx a),<-J5,<-ab1 h.per.back (m*j+a)] at e;have dl:d<=d*l:=ef9 _ l0;have e1:=dq6 tt hx h.per (i:=b) (j:=(m*j+a)%(d*l)) (by omega) (ei3 _ (by omega)) e
 have e2:b%d=a%d:=by
   rw[e1,Nat.mod_mod_of_dvd _ (Nat.dvd_mul_right d l),h.em,ej2,ey7]
 rw[ef1 hb,ef1 (show a < d by omega)] at e2;omega
def al9 (p t:List Int)(x:Int)(l d:Nat):List (List Int):=(ef4 d).map fun a=>l6 p (it t a x) l
theorem az5 (p t:List Int)(x:Int)(l d:Nat):(al9 p t x l d).length=d:=by unfold al9;rw[eb7,ee9]
theorem aq2.join {p t:List Int}{m l:Nat}(tt:x8 t)(pw:J3 t (m:Int) p){x:Int}(hx:In t x){d k:Nat}(h:aq2 t m l x d k)(l0:0 < l):K8 l k (al9 p t x l d) (l6 t x (d*l)):=by
 have rl:=az5 p t x l d
 have rows:∀r∈al9 p t x l d,r.length=l:=fun r hr=>by
   obtain ⟨a,_,rfl⟩:=ed2.mp hr;exact q9 _ _ _
 have fg:=as5 l0 rows;refine ⟨by rw[q9,rl],?_⟩;rw[rl]
 refine eg4 fun n=> ?_
 rw[ec1,ec1]
 by_cases hn:n < d*l
 · have en:n/l*l+n%l=n:=by rw[ei2];exact eu6 n l
   have ha:=ba9 hn;have hb:=ei3 n l0;have f1:=fg.2 (n/l) (n%l) (by rw[rl];exact ha) hb;rw[en] at f1
   have g1:(al9 p t x l d).getD (n/l) []=l6 p (it t (n/l) x) l:=by
     unfold al9;rw[ec3,ec1,eg8 ha];rfl
   rw[f1,g1,aa0 hb];unfold V9;rw[ec1,eg8 hn];have pl:=ao7 (k:=k) (step:=n%l) ha l0;show some (C9 (l6 t x (d*l)) ((N6 d l k (n/l) (n%l):Nat):Int))=some (some _);unfold C9;rw[eg3,aa0 pl,bc1 tt pw (P4 tt hx _),<-J5,<-bl5 ha l0,ab1 h.per.back,<-h.em,ej4,ei2]
 · rw[ed1 (by rw[ad2];omega),ed1 (by rw[fg.1,rl];omega)];rfl
def V4 (t:List Int)(es:List (Int×Int)):Bool:=es.all fun e=>decide (nx t e.1=e.2)
theorem bn9 (t:List Int)(a b:List (Int×Int)):V4 t (a++b)=(V4 t a&&V4 t b):=List.all_append
theorem bo0 {t:List Int}{es:List (Int×Int)}:V4 t es=true↔∀e∈es,nx t e.1=e.2:=by
 unfold V4;rw[em9];exact ⟨fun h e he=>of_decide_eq_true (h e he),fun h e he=>decide_eq_true (h e he)⟩
theorem db0 {p t:List Int}{m l:Nat}(tp:x8 p)(tt:x8 t)(pw:J3 t (m:Int) p)(m1:1<=m)(l0:0 < l){c:List (List Int)}(hc:∀r∈c,Rg p l r)(nd:c.flatten.Nodup)(rd:S0 l m c.length){x:Int}{d k:Nat}(ra:aq2 t m l x d k)(hx:In t x)(h0:(c.getD 0 []).getD 0 0=x):
   V4 t (K4 (J7 l m c))=true↔c.length=d/\hdC c=(ef4 d).map fun a=>it t a x:=by
 have rows:∀r∈c,r.length=l:=fun r hr=>af4 (hc r hr)
 have pt:p.length=t.length:=pw.1;constructor
 · intro ok;have ok:=bo0.mp ok;obtain ⟨kk,e1,e2,js⟩:=bg5 l0 m1 rd rows;generalize J7 l m c=J at ok js;have pm:=js.perm l0 e2;have Jl:=js.len;have c1:c.length<=c.length*l:=ef9 _ l0
   have inJ:∀u∈J,In p u:=fun u hu=>by
     obtain ⟨r,hr,hur⟩:=ee6.mp (pm.mem_iff.mp hu);exact (aq1 tp (hc r hr) hur).1
   have ro:O5 t J:=⟨fun z=>by
       rw[z] at Jl;have:=rd.1;simp only[eu5] at Jl
       omega,pm.nodup_iff.mpr nd,fun u hu=>(inJ u hu).1,fun j hj=>by
       have hm:J.getD j 0∈J:=by rw[E9 hj];exact ef2 hj
       have hi:=inJ _ hm;rw[ao6 (p:=t) ⟨hi.1,by rw[<-pt];exact hi.2⟩]
       exact congrArg some (ok (J.getD j 0,J.getD ((j+1)%J.length) 0) (ed2.mpr ⟨j,eg0.mpr hj,rfl⟩))⟩
   have pos0:∀a,N6 c.length l kk a 0=a:=fun a=>by
     unfold N6;rw[eh4,Nat.zero_mod,ek3,ej1]
   have J0:J.getD 0 0=x:=by
     have:=js.get l0 rows (a:=0) (b:=0) (by have:=rd.1;omega) l0;rw[pos0] at this;rw[this,h0]
   have jl0:0 < J.length:=by have:=rd.1;omega
   have pr:=ro.per jl0;rw[J0,Jl] at pr;have ed:c.length=d:=er4 l0 (pr.uniq ra.per);refine ⟨ed,?_⟩
   refine eg4 fun a=> ?_
   unfold hdC;rw[ec1,ec1]
   by_cases ha:a < c.length
   · rw[eg8 (by omega),eb8 ha];have g:=js.get l0 rows (a:=a) (b:=0) ha l0;rw[pos0] at g;have i1:=ro.it jl0 a;rw[J0,ej5,ef1 (by omega),g] at i1
     have eg:c.getD a []=c[a]:=by rw[ec3,eb8 ha];rfl
     rw[eg] at i1;exact congrArg some i1.symm
   · rw[ed1 (by omega),ed1 (by rw[ee9];omega)];rfl
 · rintro ⟨ed,eh⟩
   have ec:c=al9 p t x l d:=by
     rw[av5 l0 hc,eh,eh3];rfl
   have j:=ra.join tt pw hx l0
   have ej:J7 l m c=l6 t x (d*l):=by
     rw[ec];exact bg1 l0 (by rw[az5];exact ra.d1) (by rw[az5];exact ra.em) ra.co j
   rw[ej,bo0];intro e he;obtain ⟨i,hi,rfl⟩:=ed2.mp he;have hi:=eg0.mp hi;rw[q9] at hi;show nx t ((l6 t x (d*l)).getD i 0)=(l6 t x (d*l)).getD ((i+1)%(l6 t x (d*l)).length) 0
   have hp:0 < d*l:=by omega
   rw[q9,ec3,aa0 hi,ec3,aa0 (ei3 _ hp),ab1 ra.per.back];rfl
theorem bk4 {rs:List (List Int)}:∀(k:Nat) {x:List (List Int)×List (List Int)},x∈C0 rs k->x.1.getD 0 []=rs.getD 0 []
 |0,x,h=>by rw[ec9.mp h];rfl
 |k+1,x,h=>by
  obtain ⟨x',h',z⟩:=ei4.mp h;obtain ⟨y,hy,rfl⟩:=ed2.mp z;have l1:=(ay8 k h').2.2;rw[<-bk4 k h'];show (x'.1++[y.1]).getD 0 []=_;rw[ec3,ee4 (by omega),ec3]
theorem cl7 (l m n:Nat):(y8 l m n).Nodup:=by
 unfold y8;refine List.Nodup.sublist er8 ?_;rw[ed5,el4]
 exact (ed5.mp eu0).imp fun h e=>h (by omega)
theorem cl8 {l m n d:Nat}(d1:1<=d)(dn:d<=n)(h:ef6 (d*l) m=d):d∈y8 l m n:=by
 unfold y8;exact ei0.mpr ⟨ed2.mpr ⟨d - 1,eg0.mpr (by omega),by omega⟩,decide_eq_true h⟩
theorem cb1 {p t:List Int}{m l n:Nat}(tp:x8 p)(tt:x8 t)(pw:J3 t (m:Int) p)(m1:1<=m)(l0:0 < l):∀(f:Nat) {rs:List (List Int)},rs.length<=f->rs.length<=n->(∀r∈rs,Rg p l r)->rs.flatten.Nodup->(∀u∈rs.flatten,nx t u∈rs.flatten)->
   (G9 (y8 l m n) f rs).countP (fun w=>V4 t (U3 l m w))=1
 |0,rs,hf,_,_,_,_=>rfl
 |f+1,rs,hf,hn,hr,nd,cl=>by
  unfold G9
  by_cases c:rs.length=0
  · rw[if_pos c];rfl
  · rw[if_neg c]
    have rl:∀r∈rs,r.length=l:=fun r hr'=>af4 (hr r hr')
    have pt:p.length=t.length:=pw.1
    have g0:rs.getD 0 []∈rs:=by
      rw[ec3,eb8 (show 0 < rs.length by omega)];exact ef2 _
    obtain ⟨h1,h2,h3⟩:=ch9 l0 (hr _ g0)
    have x0m:(rs.getD 0 []).getD 0 0∈rs.flatten:=ee6.mpr ⟨_,g0,by
      have hl:=rl _ g0;rw[E9 (show 0 < (rs.getD 0 []).length by omega)]
      exact ef2 _⟩
    generalize e0:(rs.getD 0 []).getD 0 0=x at h1 h2 h3 x0m;have hx:In t x:=⟨h2.1,by rw[<-pt];exact h2.2⟩;obtain ⟨d,k,ra⟩:=dj3 tt pw hx h3
    have zin:∀a,it t a x∈rs.flatten:=fun a=>by
      induction a with
      |zero=>exact x0m
      |succ a ih=>exact cl _ ih
    have fl:=W7 rl
    have dle:d<=rs.length:=by
      have:=aw0 (Y5 tt hx ra.per.least) (b:=rs.flatten) (fun u hu=>by
        obtain ⟨j,_,rfl⟩:=G6.mp hu
        exact zin j)
      rw[q9,fl] at this;exact Nat.le_of_mul_le_mul_right this l0
    have din:d∈y8 l m n:=cl8 ra.d1 (by omega) ra.right
    have ap:∀a b,a < b->b < d->it t b x∉l6 p (it t a x) l:=fun a b h1 h2=>ra.apart tt pw hx l0 h1 h2
    rw[af5 (g:=fun d'=>decide (d'=d)),ch8 (cl7 l m n) din];intro d' hd';have d1:=(K0 hd').1;unfold X7
    by_cases c2:d'<=rs.length
    · rw[if_pos c2]
      have okc:∀x'∈C0 rs (d' - 1),(V4 t (K4 (J7 l m x'.1))=true↔x'.1.length=d/\hdC x'.1=(ef4 d).map fun a=>it t a x):=fun x' hx'=>by
        have o:=L8 rl (d' - 1) (by omega) hx';obtain ⟨n1,n2,n3,n4⟩:=bg7 rl nd (by omega) hx';refine db0 tp tt pw m1 l0 (ak4 tp hr (d' - 1) (by omega) hx') n1 ?_ ra hx (by rw[bk4 _ hx',e0]);rw[o.len,en3 d1];exact W8 hd'
      rw[af5 (g:=fun x'=>V4 t (K4 (J7 l m x'.1)))]
      · by_cases c3:d'=d
        · subst c3;rw[if_pos (decide_eq_true rfl)];have:=bs1 tp l0 hr nd (z:=fun a=>it t a x) e0 (n:=d') (fun a _=>zin a) ap (d' - 1) (by omega) (by omega);refine Eq.trans ?_ this
          refine eq7 fun x' hx'=> ?_
          have o:=L8 rl (d' - 1) (by omega) hx';rw[okc x' hx',decide_eq_true_iff,o.len,en3 d1];exact ⟨fun h=>h.2,fun h=>⟨rfl,h⟩⟩
        · rw[if_neg (by rw[decide_eq_false c3];decide),ek5];intro x' hx' ok;have o:=L8 rl (d' - 1) (by omega) hx';have:=((okc x' hx').mp ok).1;rw[o.len,en3 d1] at this;exact c3 this
      · intro x' hx';have o:=L8 rl (d' - 1) (by omega) hx';obtain ⟨n1,n2,n3,n4⟩:=bg7 rl nd (by omega) hx';rw[eo7]
        have ee:∀w,V4 t (U3 l m (w++[x'.1]))=(V4 t (U3 l m w)&&V4 t (K4 (J7 l m x'.1))):=fun w=>by rw[ca7,bn9]
        by_cases c3:V4 t (K4 (J7 l m x'.1))=true
        · rw[if_pos c3];refine Eq.trans ?_ (cb1 (n:=n) tp tt pw m1 l0 f (rs:=x'.2) (by have:=o.left;omega) (by have:=o.left;omega) (fun r hr'=>hr r (o.rows2 r hr')) n2 ?_)
          · refine eq7 fun w hw=> ?_
            show V4 t (U3 l m (w++[x'.1]))=true↔_;rw[ee,c3,Bool.and_true]
          · intro u hu;have hur:u∈rs.flatten:=(n4 u).mpr (.inr hu)
            refine ((n4 _).mp (cl u hur)).resolve_left fun w=> ?_
            obtain ⟨q1,q2⟩:=(okc x' hx').mp c3
            have ec:x'.1=al9 p t x l d:=by
              rw[av5 l0 (ak4 tp hr (d' - 1) (by omega) hx'),q2,eh3];rfl
            have pm:=(ra.join (p:=p) tt pw hx l0).perm l0 ra.co;rw[<-ec] at pm;have w:=pm.mem_iff.mpr w;obtain ⟨j,hj,e⟩:=G6.mp w;obtain ⟨r,hr',hur'⟩:=ee6.mp hur;have hui:=(aq1 tp (hr r hr') hur').1;have hut:In t u:=⟨hui.1,by rw[<-pt];exact hui.2⟩
            have e3:nx t u=nx t (it t (j+(d*l - 1)) x):=by
              rw[e];show it t j x=it t (j+(d*l - 1)+1) x;have:=ra.per.pos;rw[show j+(d*l - 1)+1=j+d*l by omega,J5,ra.per.back]
            have e4:=bi0 tt hut (P4 tt hx _) e3;rw[<-ab1 ra.per.back] at e4;have:u∈l6 t x (d*l):=G6.mpr ⟨_,ei3 _ ra.per.pos,e4⟩;exact n3 u (pm.mem_iff.mp this) hu
        · rw[if_neg c3,ek5];intro w hw ok;have ok:V4 t (U3 l m (w++[x'.1]))=true:=ok;rw[ee,eh9] at ok;exact c3 ok.2
    · rw[if_neg c2,if_neg (by rw[decide_eq_false (show ¬d'=d by omega)];decide)];rfl
end
end My
namespace My
open PySem L2 Mth
section
def ab9:List (List (List (Int×Int)))->List (List (Int×Int))
 |[]=>[[]]
 |c::y9=>c.flatMap fun es=>(ab9 y9).map fun e=>es++e
theorem cl9 (t:List Int)(a b:List (Int×Int)):B8 t (a++b)=B8 (B8 t a) b:=by
 unfold B8;exact et2
theorem bd5:∀(y9:List (List (List (Int×Int)))) (laid:List (List Int)),y9.foldl U0 laid=laid.flatMap fun t0=>(ab9 y9).map (B8 t0)
 |[],laid=>by
  show laid=laid.flatMap fun t0=>[t0]
  induction laid with
  |nil=>rfl
  |cons x xs ih=>rw[eh1,<-ih];rfl
 |c::y9,laid=>by
  show y9.foldl U0 (U0 laid c)=_;rw[bd5 y9];unfold U0;rw[List.flatMap_assoc];refine congrArg (fun f=>List.flatMap f laid) (funext fun t0=> ?_);show (c.map (B8 t0)).flatMap (fun t1=>(ab9 y9).map (B8 t1))=(c.flatMap fun es=>(ab9 y9).map fun e=>es++e).map (B8 t0);rw[List.flatMap_map,List.map_flatMap];refine congrArg (fun f=>List.flatMap f c) (funext fun es=> ?_);show (ab9 y9).map (B8 (B8 t0 es))=((ab9 y9).map fun e=>es++e).map (B8 t0);rw[eh3]
  exact eh8 fun e _=>(cl9 t0 es e).symm
theorem bk5:∀{y9:List (List (List (Int×Int)))} {e:List (Int×Int)},e∈ab9 y9->∃ess,Pkd ess y9/\e=ess.flatten
 |[],e,h=>⟨[],.nil,ec9.mp h⟩
 |c::y9,e,h=>by
  obtain ⟨es,hes,z⟩:=ei4.mp h;obtain ⟨e',he',rfl⟩:=ed2.mp z;obtain ⟨ess,pk,rfl⟩:=bk5 he';exact ⟨es::ess,.cons hes pk,rfl⟩
theorem bk6 {t:List Int}{f:Nat->List (List (Int×Int))}:∀{ks:List Nat},(∀k∈ks,(f k).countP (V4 t)=1)->(ab9 (ks.map f)).countP (V4 t)=1
 |[],_=>rfl
 |k::ks,h=>by
  show ((f k).flatMap fun es=>(ab9 (ks.map f)).map fun e=>es++e).countP (V4 t)=1;rw[af5 (g:=V4 t),h k ec5];intro es hes;rw[eo7]
  by_cases c:V4 t es=true
  · rw[if_pos c];refine Eq.trans (eq7 fun e _=> ?_) (bk6 fun k hk=>h k (ec7 _ hk));show V4 t (es++e)=true↔_;rw[bn9,c,Bool.true_and]
  · rw[if_neg c,ek5];intro e _ z;have z:V4 t (es++e)=true:=z;rw[bn9,eh9] at z;exact c z.1
theorem db1 {p t:List Int}{m l:Nat}(tp:x8 p)(tt:x8 t)(pw:J3 t (m:Int) p){u:Int}(hu:In p u)(h:K7 p u l):K7 p (nx t u) l:=by
 have pt:p.length=t.length:=pw.1
 have tr:∀y,In p y->In t y:=fun y hy=>⟨hy.1,by rw[<-pt];exact hy.2⟩
 have com:∀i,it p i (nx t u)=nx t (it p i u):=fun i=>by
   rw[bc1 tt pw (cj8 tt (tr u hu)),bc1 tt pw (tr u hu)];show it t (m*i) (it t 1 u)=it t (m*i+1) u;rw[<-J5]
 refine ⟨h.pos,by rw[com,h.back],fun i i0 i1 e=> ?_⟩;rw[com] at e;exact h.least i i0 i1 (bi0 tt (tr _ (P4 tp hu i)) (tr u hu) e)
theorem dq7 {p t:List Int}{m k:Nat}(tp:x8 p)(lp:p.length<=40)(tt:x8 t)(pw:J3 t (m:Int) p)(m1:1<=m)(k0:0 < k){rs:List (List Int)}(up:G0 p p.length rs):(chF rs m k).countP (V4 t)=1:=by
 have pt:p.length=t.length:=pw.1
 have fr:∀r∈K9 rs k,Rg p k r:=fun r hr=>by
   have:=bn8 up (M7 hr).1;rw[(M7 hr).2] at this;exact this
 have fl:=ab7 tp up
 have e1:=W7 (l:=k) (rs:=K9 rs k) fun r hr=>(M7 hr).2
 have e2:=(U9 rs k).length_le;have k3:(K9 rs k).length<=40:=ed3 (ef9 _ k0) (by rw[<-e1];omega);unfold chF;rw[eo7]
 refine cb1 tp tt pw m1 k0 40 k3 (by rw[bb0];exact ec0 _) fr ((U9 rs k).nodup up.nd) fun u hu=> ?_
 obtain ⟨r,hr,hur⟩:=ee6.mp hu;obtain ⟨a,b,_⟩:=aq1 tp (fr r hr) hur;have hn:=db1 tp tt pw a b
 have hin:In p (nx t u):=by
   have:=cj8 tt (x:=u) ⟨a.1,by rw[<-pt];exact a.2⟩;exact ⟨this.1,by rw[pt];exact this.2⟩
 obtain ⟨r2,hr2,h2⟩:=ee6.mp (up.all _ hin.1 hin.2);have e:=(aq1 tp (bn8 up hr2) h2).2.1.uniq hn;exact ee6.mpr ⟨r2,by unfold K9;exact ei0.mpr ⟨hr2,decide_eq_true e⟩,h2⟩
theorem cb2 {p t:List Int}{m:Nat}(tp:x8 p)(lp:p.length<=40)(tt:x8 t)(pw:J3 t (m:Int) p)(m1:1<=m){ks:List Nat}(nk:ks.Nodup)(h1:∀k∈ks,∃r∈t8 p p.length,r.length=k)(h2:∀r∈t8 p p.length,r.length∈ks):(U1 p (ks.map (chF (t8 p p.length) m))).countP (fun u=>decide (u=t))=1:=by
 have up:=Z2 tp;generalize t8 p p.length=rs at up h1 h2 ⊢;have pt:p.length=t.length:=pw.1
 have k0:∀k∈ks,0 < k:=fun k hk=>by
   obtain ⟨r,hr,e⟩:=h1 k hk;have:=(rsb tp up r hr).1;omega
 unfold U1;rw[bd5,eh1,en1,ee3,eo7];refine Eq.trans (eq7 fun es hes=> ?_) (bk6 (t:=t) fun k hk=>dq7 tp lp tt pw m1 (k0 k hk) up);show decide (B8 p es=t)=true↔V4 t es=true;obtain ⟨ess,pk,rfl⟩:=bk5 hes
 obtain ⟨knd,kin,kall⟩:=bg6 (p:=p) ks nk (fun k hk es hes=>by
   obtain ⟨w,o⟩:=bu0 tp lp up m1 (k0 k hk) hes
   exact ⟨o.nd,o.keys⟩) pk
 have put:=az4 ess.flatten p knd fun e he=>(kin e.1 (ed2.mpr ⟨e,he,rfl⟩)).1
 rw[decide_eq_true_iff,bo0];constructor
 · intro e x hx;have a:=put x hx;have b:=(kin x.1 (ed2.mpr ⟨x,hx,rfl⟩)).1;rw[e,ao6 ⟨b.1,by rw[<-pt];exact b.2⟩] at a;exact Option.some.inj a
 · intro ok
   refine eg4 fun i=> ?_
   by_cases hi:i < p.length
   · have hx:In p (i:Int):=⟨by omega,by omega⟩;obtain ⟨r0,hr0,hxr⟩:=ee6.mp (up.all _ hx.1 hx.2);obtain ⟨es,hes,hef⟩:=kall r0.length (h2 r0 hr0);have k1:=k0 _ (h2 r0 hr0);obtain ⟨w,o⟩:=bu0 tp lp up m1 k1 hef;have xf:(i:Int)∈(K9 rs r0.length).flatten:=ee6.mpr ⟨r0,by unfold K9;exact ei0.mpr ⟨hr0,decide_eq_true rfl⟩,hxr⟩;obtain ⟨cf,hcf,hxc⟩:=ee6.mp (o.perm.mem_iff.mpr xf);obtain ⟨c,hc,rfl⟩:=ed2.mp hcf
     have rows:∀r∈c,r.length=r0.length:=fun r hr=>af4 (o.rg c hc r hr)
     obtain ⟨kk,e1,e2,js⟩:=bg5 k1 m1 (o.right c hc) rows;have xJ:=(js.perm k1 e2).mem_iff.mpr hxc;rw[<-av0 (J7 r0.length m c)] at xJ;obtain ⟨e,he,ex⟩:=ed2.mp xJ;have hef:e∈ess.flatten:=ee6.mpr ⟨es,hes,by rw[o.eq];exact ei4.mpr ⟨c,hc,he⟩⟩;have a:=put e hef;have b:=ao6 (p:=t) (x:=(i:Int)) ⟨hx.1,by rw[<-pt];exact hx.2⟩;have ok:=ok e hef;rw[ex] at a ok;rw[<-ok,<-b] at a;unfold C9 at a;rw[eg3] at a;exact a
   · rw[ed1 (by rw[av3];omega),ed1 (by omega)]
theorem az6:∀{ts:List (List Int)},(∀t∈ts,ts.countP (fun u=>decide (u=t))=1)->ts.Nodup
 |[],_=>ei6
 |x::xs,h=>by
  have h0:=h x ec5;rw[ek4,if_pos (decide_eq_true rfl)] at h0
  have nx:x∉xs:=fun z=>by
    have:xs.countP (fun u=>decide (u=x))=0:=by omega
    exact ek5.mp this x z (decide_eq_true rfl)
  refine eg5.mpr ⟨nx,az6 fun t ht=> ?_⟩;have h1:=h t (ec7 _ ht);rw[ek4,if_neg (fun e=>nx (by rw[of_decide_eq_true e];exact ht))] at h1;exact h1
theorem db2 {p:List Int}(m:Nat)(tp:x8 p)(lp:p.length<=40):∃ks:List Nat,ks.Nodup/\(∀k∈ks,∃r∈t8 p p.length,r.length=k)/\(∀r∈t8 p p.length,r.length∈ks)/\(U1 p (ks.map (chF (t8 p p.length) m))).length=M6 p m:=by
 have up:=Z2 tp
 have ks:∃ks:List Nat,ks.Nodup/\(∀k∈ks,∃r∈t8 p p.length,r.length=k)/\(∀r∈t8 p p.length,r.length∈ks):=by
   refine ⟨(ef4 (p.length+1)).filter fun k=>(t8 p p.length).any fun r=>decide (r.length=k),List.Nodup.sublist er8 eu0,fun k hk=> ?_,fun r hr=> ?_⟩
   · obtain ⟨r,hr,e⟩:=et9.mp (ei0.mp hk).2;exact ⟨r,hr,of_decide_eq_true e⟩
   · exact ei0.mpr ⟨eg0.mpr (by have:=(rsb tp up r hr).2;omega),et9.mpr ⟨r,hr,decide_eq_true rfl⟩⟩
 obtain ⟨ks,nk,h1,h2⟩:=ks;refine ⟨ks,nk,h1,h2,?_⟩
 have len:=al8 p (chF (t8 p p.length) m) (fun l=>C2 l m (t9 (t8 p p.length) l)) ks.length ks (ec0 _) fun k hk=>by
   refine ch5 ?_;obtain ⟨r,hr,e⟩:=h1 k hk;have k1:=(rsb tp up r hr).1;have fl:=ab7 tp up
   have e1:=W7 (l:=k) (rs:=K9 (t8 p p.length) k) fun r hr=>(M7 hr).2
   have e2:=(U9 (t8 p p.length) k).length_le;exact ed3 (ef9 _ (show 0 < k by omega)) (by rw[<-e1];omega)
 rw[al5 tp up nk h1 h2 fun u hu=>by rw[hu];rfl] at len;exact len
theorem dj4 {p:List Int}{m:Nat}(tp:x8 p)(lp:p.length<=40)(m1:1<=m):0 < M6 p m↔∃t,x8 t/\J3 t (m:Int) p:=by
 obtain ⟨ks,nk,h1,h2,len⟩:=db2 m tp lp;constructor
 · intro h;rw[<-len] at h;obtain ⟨t,ht⟩:=List.exists_mem_of_length_pos h;exact ⟨t,br9 tp lp m1 nk h1 h2 ht⟩
 · rintro ⟨t,tt,pw⟩;have one:=cb2 tp lp tt pw m1 nk h1 h2;rw[<-len];have:=eu4 (p:=fun u=>decide (u=t)) (l:=U1 p (ks.map (chF (t8 p p.length) m)));omega
theorem U2.once {p t:List Int}{m:Nat}{ts:List (List Int)}(h:U2 p m ts)(tp:x8 p)(lp:p.length<=40)(m1:1<=m)(tt:x8 t)(pw:J3 t (m:Int) p):ts.countP (fun u=>decide (u=t))=1:=by
 rcases h.src with z|⟨ks,nk,h1,h2,pr⟩
 · have:=(dj4 tp lp m1).mpr ⟨t,tt,pw⟩;omega
 · rw[pr.countP_eq];exact cb2 tp lp tt pw m1 nk h1 h2
theorem U2.mem {p t:List Int}{m:Nat}{ts:List (List Int)}(h:U2 p m ts)(tp:x8 p)(lp:p.length<=40)(m1:1<=m):t∈ts↔x8 t/\J3 t (m:Int) p:=by
 refine ⟨h.root tp lp m1 t,fun ⟨tt,pw⟩=> ?_⟩;have:=h.once tp lp m1 tt pw;obtain ⟨u,hu,e⟩:=List.countP_pos_iff.mp (show 0 < ts.countP (fun u=>decide (u=t)) by omega);rw[<-of_decide_eq_true e];exact hu
theorem U2.nd {p:List Int}{m:Nat}{ts:List (List Int)}(h:U2 p m ts)(tp:x8 p)(lp:p.length<=40)(m1:1<=m):ts.Nodup:=
 az6 fun t ht=>have:=h.root tp lp m1 t ht;h.once tp lp m1 this.1 this.2
theorem U2.up {p:List Int}{m:Nat}{ts:List (List Int)}(h:U2 p m ts)(tp:x8 p)(lp:p.length<=40)(m1:1<=m):ts.Pairwise (fun r r'=>HT.ba5 r r'=true):=by
 refine List.Pairwise.imp₂ (fun a b h1 h2=> ?_) h.srt (ed5.mp (h.nd tp lp m1))
 rcases bm5 b a h1 with z|z
 · exact z
 · exact absurd z.symm h2
end
end My
namespace My
open PySem L2 Mth PySem.Spec PyProof.Rows
section
def dz8 (K:PySem.W.Frag):R2:=fun x y H Q=>(cw8 x y=true/\Q (.bl (decide (x=y))) H)\/(∃l xs b,x= .ref l/\y= .str b/\g9 K H l xs/\Q (.bl false) H)
theorem cv6 {X:Cx}(hu:X.A.units+1 < cLine):O7 X (compareOp .Eq) (dz8 X.K):=by
 intro pins s σ H x y v u Q I rx ry h
 rcases h with h|⟨l,xs,b,rfl,rfl,hq,q⟩
 · exact V1 pins s σ H x y v u Q I rx ry h
 · cases rx;obtain ⟨t,rfl⟩:=ry;obtain ⟨its,rr,pl,hz⟩:=I.list hq;exact SeqAt.RcAt.list_str b t pl.isList (by omega) _ _ _ _ ⟨.bl false,H,I,rfl,q⟩
end
end My
namespace L2
open PySem PySem.Spec PyProof.Rows
section
variable {X:Cx}
def dz9:R2:=fun x y H Q=>∃a b ns ms,x= .ref a/\y= .ref b/\H a=some (.lst (ns.map V.int))/\H b=some (.lst (ms.map V.int))/\Q (.bl (HT.ba5 ns ms)) H
theorem cv7 (hu:X.A.units < cLine):O7 X (compareOp .Lt) dz9:=by
 intro pins s σ H x y v u Q I rx ry h;obtain ⟨a,b,ns,ms,rfl,rfl,ha,hb,q⟩:=h;cases rx;cases ry;obtain ⟨_,xs,n,rv,_,hx⟩:=I.lstM ha;obtain ⟨_,ys,n2,rw_,_,hy⟩:=I.lstM hb;have i1:IntsAre xs.toArray.toList ns:=aa9 rv;have i2:IntsAre ys.toArray.toList ms:=aa9 rw_
 exact richCompare_meets_room (op:= .Lt) ⟨_,hx,rfl⟩ ⟨_,hy,rfl⟩ PySem.F.slot_list_lt PySem.F.entry_list_lt (PySem.F.args_list_lt_2 _ _) (HT.do3 a b xs.toArray ys.toArray n n2 ns ms i1 i2)
   ⟨⟨hx,hy⟩,(show Value.bool (HT.ba5 ns ms)≠Value.notImplemented/\_ from ⟨(fun x=>nomatch x),⟨.bl (HT.ba5 ns ms),H,I,rfl,q⟩⟩)⟩ hu
end
end L2
namespace L2
open PySem PySem.Spec PyProof.Rows
section
variable {X:Cx}
theorem cd9 {its:List Value}{st:Nat}(hs:0 < st):slicePick its.toArray none none (some (st:Int))=((at1 its.length 0 st).filterMap fun i=>its[i]?).toArray:=by
 rw[<-ck9 (ed7 _) hs];unfold slicePick
 have hb:sliceBounds none none (some (st:Int)) its.toArray.size=sliceBounds (some ((0:Nat):Int)) none (some (st:Int)) its.toArray.size:=by
   simp only[sliceBounds,Option.getD_some,ed4];rw[if_pos (show (st:Int) > 0 by omega),if_pos (show (st:Int) > 0 by omega),if_pos (show (st:Int) > 0 by omega)];rw[if_neg (show ¬((0:Nat):Int) < 0 by omega)];rw[show max (0:Int) (min ((0:Nat):Int) (its.length:Int))=0 by omega]
 rw[hb]
def dq8 (K:PySem.W.Frag)(te:TE)(ts:TO):TE:=fun σ H Q=>te σ H fun x H1=>ts σ H1 fun o H3=>∃(st:Nat) (a:Addr) (xs:List V),o=some (st:Int)/\0 < st/\x= .ref a/\g9 K H3 a xs/\∀p,H3 p=none->Q (.ref p) (c9 H3 p (.lst (ab3 xs 0 st)))
theorem db3 {e st:Expr}{te:TE}{ts:TO}{p2 pos:Pos}(K:PySem.W.Frag)(he:PE X e te)(hst:PO X (some st) ts)(hK:X.K=K:=by rfl):PE X (.Subscript e (.Slice none none (some st) p2) pos) (dq8 K te ts):=by
 subst hK;intro pins s σ H Q I h;refine Subscript_ (t7 (he pins s σ H _ I h) fun v s1 ⟨x,H1,I1,r1,q1⟩=> ?_);refine wpAny_Slice ?_;rw[evalPart_none];refine wpAny_pure (wpAny_pure ?_)
 refine t7 (hst pins s1 σ H1 _ I1 q1) fun vk s3 ⟨o,H3,I3,pk,d,a,xs,eo,d0,ex,hx,q⟩=> ?_
 subst eo ex;cases r1
 have I4:i4 X pins σ H3 {s3 with heap:=s3.heap.push {cls:= .type "slice",data:= .fields #[.none,.none,vk]}}:=I3.kept (t':=s3.toks) fun b ob q=>Heap.get?_push_of_some _ q
 obtain ⟨its,r,ht,hz⟩:=I4.list hx;have hlen:=r.length;show wpAny (model X.prog X.w) X.A (subscriptTail e (.Slice none none (some st) p2) (.ref a) (.ref s3.heap.objs.size)) (EP X pins σ Q) X.xe {s3 with heap:=s3.heap.push {cls:= .type "slice",data:= .fields #[.none,.none,vk]}};refine tail_any (ops:=[.ref a,.ref s3.heap.objs.size]) (T:="list") ht.isList.typeIs slot_list_getitem.lookup ?_ rfl;refine wpAny_getItem_list_slice ht.isList (Heap.IsSliceOf.new ..) .none .none pk (by intro e;have:=Option.some.inj e;omega) ?_ (by rw[ed4]<;>omega);rw[cd9 d0]
 have I5:=I4.laid (t':=s3.toks) (o:= .lst (ab3 xs 0 d)) (h':=(s3.heap.push {cls:= .type "slice",data:= .fields #[.none,.none,vk]}).push {cls:= .type "list",data:= .seq ((at1 its.length 0 d).filterMap fun i=>its[i]?).toArray}) (a:=(s3.heap.push {cls:= .type "slice",data:= .fields #[.none,.none,vk]}).objs.size)
   (fun b ob q=>Heap.get?_push_of_some _ q) (ec0 _) ⟨ed3 (ct0 xs 0 d d0 (ed7 _)) hz,_,0,by unfold ab3;rw[hlen];exact ay3 r _,Heap.get?_push_size _ rfl⟩
 exact ⟨.ref _,_,I5,rfl,q _ (I4.hok.fresh (ec0 _))⟩
end
end L2
namespace My
open PySem L2 Mth
section
theorem cb3 {t:List Int}{rs:List (List Int)}(al:bb1 t rs)(ne:∀r∈rs,r≠[])(pm:rs.flatten.Perm (L2.Y0 0 t.length)){r:List Int}(hr:r∈rs):O5 t r:=by
 have nd:rs.flatten.Nodup:=pm.nodup_iff.mpr (S9 _);refine ⟨ne r hr,(List.pairwise_flatten.mp nd).1 r hr,fun x hx=>(R0.mp (pm.mem_iff.mp (ee6.mpr ⟨r,hr,hx⟩))).1,fun j hj=>al r hr j hj⟩
theorem bk7 {t:List Int}{rs:List (List Int)}(al:bb1 t rs)(ne:∀r∈rs,r≠[])(pm:rs.flatten.Perm (L2.Y0 0 t.length)):x8 t:=by
 have at_:∀x,In t x->∃r∈rs,∃j,j < r.length/\x=r.getD j 0:=fun x hx=>by
   obtain ⟨r,hr,hxr⟩:=ee6.mp (pm.mem_iff.mpr (R0.mpr hx));obtain ⟨j,hj⟩:=ef8.mp hxr;refine ⟨r,hr,j,(eb9.mp hj).1,?_⟩;rw[ec3,hj];rfl
 refine bd2 (fun x hx=> ?_) fun x hx=> ?_
 · obtain ⟨r,hr,j,hj,rfl⟩:=at_ x hx;have ro:=cb3 al ne pm hr;rw[ro.nx hj];exact ro.in_ (ei3 _ (by omega))
 · obtain ⟨r,hr,j,hj,rfl⟩:=at_ x hx;have pr:=(cb3 al ne pm hr).per hj;exact ⟨_,pr.pos,pr.back⟩
theorem bd6 {f:Int->Nat}{l:Nat}:∀{rs:List (List Int)},(∀r∈rs,∀x∈r,f x=r.length)->rs.flatten.countP (fun x=>decide (f x=l))=l*rs.countP fun r=>decide (r.length=l)
 |[],_=>by rw[List.countP_nil,ek3];rfl
 |r::rs,h=>by
  rw[eg7,es6,bd6 fun q hq=>h q (ec7 _ hq),ek4];have hr:=h r ec5
  by_cases c:r.length=l
  · rw[List.countP_eq_length.mpr fun x hx=>decide_eq_true (by rw[hr x hx,c]),if_pos (decide_eq_true c),es0,ek7,c,ej4]
  · rw[ek5.mpr fun x hx e=>c (by rw[<-hr x hx];exact of_decide_eq_true e),if_neg (by rw[decide_eq_false c];decide),ej5,ej1]
theorem cm0 {t:List Int}{rs:List (List Int)}(al:bb1 t rs)(ne:∀r∈rs,r≠[])(pm:rs.flatten.Perm (L2.Y0 0 t.length)){l:Nat}(l0:0 < l):t9 (t8 t t.length) l=rs.countP fun r=>decide (r.length=l):=by
 have tt:=bk7 al ne pm;have nd:rs.flatten.Nodup:=pm.nodup_iff.mpr (S9 _);have e:=ck4 tt l;rw[<-pm.countP_eq,bd6 (cs4 al nd)] at e;exact (en0 l0 e).symm
theorem bk8 {f g:Nat->Nat}:∀{xs:List Nat},(∀x∈xs,f x=g x)->w9 f xs=w9 g xs
 |[],_=>rfl
 |x::xs,h=>by
  show f x*w9 f xs=g x*w9 g xs;rw[h x ec5,bk8 fun y hy=>h y (ec7 _ hy)]
def Q8 (more:Nat):List Nat:=ed6 (4+more) 1++[3,3,3,9,9,2,2]
theorem db4 {t:List Int}{rs:List (List Int)}{m:Nat}(al:bb1 t rs)(ne:∀r∈rs,r≠[])(pm:rs.flatten.Perm (L2.Y0 0 t.length)):M6 t m=w9 (fun l=>C2 l m ((rs.map et3).countP fun k=>decide (k=l))) ((ef4 t.length).map (· +1)):=by
 unfold M6
 refine bk8 fun l hl=> ?_
 obtain ⟨i,_,rfl⟩:=ed2.mp hl;rw[cm0 al ne pm (Nat.succ_pos i),eo7];rfl
theorem cb4:w9 (fun l=>C2 l 2 ((Q8 0).countP fun k=>decide (k=l))) ((ef4 35).map (· +1))=2000:=by decide+kernel
theorem db5:w9 (fun l=>C2 l 2 ((Q8 1).countP fun k=>decide (k=l))) ((ef4 36).map (· +1))=5200:=by decide+kernel
end
end My
namespace My
open PySem L2 Mth
section
variable {P:Program} {w:World} {K:PySem.W.Frag} {mg:Str->Option Value} {base:Heap}
theorem cv8:∀{a b:List Int},a.Perm b->a.Pairwise (· <= ·)->b.Pairwise (· <= ·)->a=b:=fun {a b} h ha hb=>by
 have:=bd1 ((et1 a).trans (h.trans (et1 b).symm)) (al1 ha) (al1 hb);have:=congrArg List.reverse this
 rwa [er3,er3] at this
def am0:Sp:=fun vs H Q _=>∃(a:Addr) (p:List Int) (n:Nat),vs=[.ref a,.int (n:Int)]/\L4 H a p/\n=p.length/\∀H',e7 H H'->Q (.bl true) H'
theorem bo1:m8 ["found","many"] ["found","many"] (j6 ag0):=⟨rfl,rfl,rfl,by decide+kernel,rfl,by decide+kernel,by decide+kernel⟩
theorem az7:(["one"]:List Str).Nodup:=by decide+kernel
theorem bo2 {f:Addr}{fd:FuncData}(F:E7 K "_law_is_turn" "_law_is_turn" ag0 f fd)(B:Bl mg):o8 P w K mg base G2 1 f fd ["found","many"] am0:=by
 refine F.ok bo1 (fun vs H Q E h=> ?_) (fun cdv A outer s H vs Q E hr h=> ?_)
 · obtain ⟨a,p,n,rfl,⟨ha,tp,lp⟩,rfl,q⟩:=h;rfl
 · obtain ⟨a,p,n,rfl,⟨ha,tp,lp⟩,rfl,q⟩:=h;have hu:=Q3 hr;refine ⟨_,@c7 _ _ _ _ _ (@B5 _ _ _ _ _ _ _ _ (@N8 _ _ _ _ (@O6 _ _ _ (@ai3 _ _ _ _ _ _ B.isi (@c5 _ _ _ _ _ (pv 0) (@c5 _ _ _ _ _ (@ak9 _ _ B.list (by rfl)) (@c6 _) (by rfl)) (by rfl)) (by rfl) (by rfl) (by rfl)) (by intro _;rfl))) (@e8 _ _ _ (@j9 _ _ _ _ (@M9 _ _ _ _))) (@r6 _)) (@c7 _ _ _ _ _ (@B5 _ _ _ _ _ _ _ _ (@m7 _ _ _ _ _ _ _ _ (ae7 0 hu) (@U6 _ _ _ _ _ _ _ _ _ _ _ (["one"]) (1) ([]) rfl .of (@E2 _ _ _ _ (pv 0)) (fun _ _ _ _ _=>@i8 _ _ (0) _ az7 rfl (Or.inl rfl) (by trivial)) (fun _ _ _ _ _=>@S7 _ _ _ (@aa8 _ _ _ _ _ _ _ (@N8 _ _ _ _ (@O6 _ _ _ (@cf0 _ _ _ K _ _ _ B.isi (@c5 _ _ _ _ _ (pv 0) (@c5 _ _ _ _ _ (@bw3 _ _ B.int (by rfl)) (@c6 _) (by rfl)) (by rfl)) (by rfl) (by rfl) (by rfl) (by rfl)) (by intro _;rfl))) (@aa7 _ _ _ _ (@O6 _ _ _ (@cf0 _ _ _ K _ _ _ B.isi (@c5 _ _ _ _ _ (pv 0) (@c5 _ _ _ _ _ (@bp9 _ _ B.bool (by rfl)) (@c6 _) (by rfl)) (by rfl)) (by rfl) (by rfl) (by rfl) (by rfl)) (by intro _;rfl)))).pt) (fun _ _ _ _ _=>(pv 0)) (by intro _;rfl)) (@o6 _ _ _ _ (@c6 _)) (n0 _)) (@e8 _ _ _ (@j9 _ _ _ _ (@M9 _ _ _ _))) (@r6 _)) (@e8 _ _ _ (@j9 _ _ _ _ (@ac6 _ _ _ _ _ _ _ _ (ao4 0 hu) (@cq7 _ _ _ _ _ B.sorted (@c5 _ _ _ _ _ (pv 0) (@c6 _) (by rfl)) (by rfl) (by rfl)) (@ar5 _ _ _ _ _ _ _ rfl B.list B.range (@c5 _ _ _ _ _ (pv 1) (@c6 _) (by rfl)) (by rfl) (by rfl) (by rfl) (by rfl)) (n0 _))))),?_⟩
   try dsimp only[y7,Cx.nox,Cx.wish]
   refine ⟨_,rfl,_,"list",_,true,rfl,.lst ha,Z1 K "list",true,rfl,?_⟩;refine B6 ?_;refine ⟨_,rfl,a,rfl,⟨_,g9.of ha⟩,Z9 (K:=K) (a:=a) (xs:=p.map V.int) (fun i ys σ H2=>∃v:Option V,σ=[v]/\ys=[]/\H2=H) ⟨none,rfl,rfl,rfl⟩ (fun i ys σ H2 _ ⟨_,_,_,e⟩=>by rw[e];exact g9.of ha) ?_ ?_⟩
   · rintro i y ys σ H2 hi ⟨v,rfl,rfl,rfl⟩;obtain ⟨z,hz,rfl⟩:=R1 hi;refine ⟨_,rfl,_,"int",_,true,rfl,.int z,Z1 K "int",true,rfl,?_⟩;refine B6 ⟨_,rfl,_,"bool",_,false,rfl,.int z,ai2 K,false,rfl,?_⟩;exact B6 ⟨_,rfl,rfl,rfl⟩
   · rintro ys σ H2 ⟨v,rfl,rfl,rfl⟩ D hD;refine ⟨ed7 _,fun e he=> ?_⟩
     have hde:D≠e:=fun z=>by rw[<-z,c8] at he;cases he
     have he0:H2 e=none:=by rw[g6 hde.symm] at he;exact he
     have s2:e7 H2 (c9 (c9 H2 D (.lst [])) e (.lst [])):=(e7.upd_new hD).upd_r he0;refine ⟨D,e,[],[],true,rfl,rfl,g9.of (by rw[g6 hde,c8]),g9.of c8,bl3 _ _ _ _,_,rfl,?_⟩;refine B6 ?_;generalize (c9 (c9 H2 D (.lst [])) e (.lst []))=H3 at s2 ⊢;refine ⟨_,rfl,a,p,rfl,g9.of (s2 _ _ ha),by omega,fun ms so pm srt hso=> ?_⟩;have s3:e7 H3 (c9 H3 so (.lst (ms.map V.int))):=e7.upd_new hso;have h4s:(c9 H3 so (.lst (ms.map V.int))) so=some (.lst (ms.map V.int)):=c8;generalize (c9 H3 so (.lst (ms.map V.int)))=H4 at s3 h4s ⊢;refine ⟨_,rfl,(p.length:Int),rfl,fun r hr'=> ?_⟩;refine ⟨r,0,(p.length:Int),rfl,c8,⟨by omega,by omega,by omega,by omega⟩,by omega,fun l2 hl2=> ?_⟩;have s4:=(e7.upd_new (H:=H4) (p:=r) (o:=HO.rng 0 (p.length:Int)) hr');generalize (c9 H4 r (HO.rng 0 (p.length:Int)))=H5 at s4 hl2 ⊢
     have em:ms=Y0 0 p.length:=by
       refine cv8 (pm.trans tp.perm) srt ?_;unfold L2.Y0;refine List.Pairwise.map _ (fun a b hab=> ?_) (eq0 (n:=p.length));show (0:Int)+(a:Int)<=0+(b:Int);omega
     have er:((p.length:Int) - 0).toNat=p.length:=by omega
     rw[er];refine ⟨so,l2,_,_,_,rfl,rfl,g9.of (by rw[g6 (g7 (s4 _ _ h4s) hl2)];exact s4 _ _ h4s),g9.of c8,Q9 _ _ _ _ _,?_⟩;show Q (.bl (decide (ms=Y0 0 p.length))) _;rw[decide_eq_true em];exact q _ (((s2.trans s3).trans s4).trans (e7.upd_new hl2))
end
end My
namespace My
open PySem L2 Mth
section
def U4 (n:Nat):Nat->List (List Int)
 |0=>[[]]
 |k+1=>(U4 n k).flatMap fun r=>((ef4 n).filter fun (t:Nat)=> !decide ((t:Int)∈r)).map fun (t:Nat)=>r++[(t:Int)]
theorem ae1 {n:Nat}:∀(k:Nat) {r:List Int},r∈U4 n k↔r.length=k/\r.Nodup/\∀x∈r,0<=x/\x < (n:Int)
 |0,r=>by
  show r∈[[]]↔_;rw[ec9];refine ⟨fun e=>by rw[e];exact ⟨rfl,ei6,(fun x hx=>by cases hx)⟩,fun h=>ej9.mp h.1⟩
 |k+1,r=>by
  show r∈(U4 n k).flatMap _↔_;rw[ei4];constructor
  · rintro ⟨q,hq,h⟩;obtain ⟨t,ht,rfl⟩:=ed2.mp h;obtain ⟨h1,h2⟩:=ei0.mp ht;have h1:=eg0.mp h1;obtain ⟨a,b,c⟩:=(ae1 k).mp hq
    have h2:(t:Int)∉q:=fun z=>by rw[decide_eq_true z] at h2;cases h2
    refine ⟨by rw[ec6,a];rfl,?_,fun x hx=> ?_⟩
    · rw[eh0];refine ⟨b,eg5.mpr ⟨List.not_mem_nil,ei6⟩,fun x hx y hy e=> ?_⟩;rw[ec9.mp hy] at e;exact h2 (e▸hx)
    · rcases ed0.mp hx with z|z
      · exact c x z
      · rw[ec9.mp z];omega
  · rintro ⟨a,b,c⟩
    have ne:r≠[]:=fun z=>by rw[z] at a;cases a
    have e:=(eq3 ne).symm;have hx:r.getLast ne∈r:=List.getLast_mem ne
    have hl:r.dropLast.length=k:=by rw[er1,a];rfl
    generalize r.getLast ne=x at e hx;generalize r.dropLast=q at e hl;subst e;rw[eh0] at b;obtain ⟨x0,x1⟩:=c x hx;obtain ⟨t,rfl⟩:=em3 x0;refine ⟨q,(ae1 k).mpr ⟨hl,b.1,fun y hy=>c y (ef7 _ hy)⟩,ed2.mpr ⟨t,ei0.mpr ⟨eg0.mpr (by omega),?_⟩,rfl⟩⟩;rw[decide_eq_false (fun z=>b.2.2 _ z _ (ec9.mpr rfl) rfl)];rfl
theorem cb5 {n:Nat}{r:List Int}(h:r∈U4 n n):x8 r/\r.length=n:=by
 obtain ⟨a,b,c⟩:=(ae1 n).mp h;exact ⟨⟨b,fun x hx=>(c x hx).1,fun x hx=>by rw[a];exact (c x hx).2⟩,a⟩
theorem dj5 {p:List Int}(t:x8 p):p∈U4 p.length p.length:=(ae1 _).mpr ⟨rfl,t.nd,fun x hx=>⟨t.lo x hx,t.hi x hx⟩⟩
theorem ci0:∀n,n < 7->∀k,k < 7->(U4 n k).length<=720:=by decide+kernel
theorem ci1:∀{a b:List Int} (c d:List Int),a.length=b.length->HT.ba5 a b=true->HT.ba5 (a++c) (b++d)=true
 |[],[],c,d,_,h=>by cases h
 |[],y::b,c,d,l,h=>by cases l
 |x::a,[],c,d,l,h=>by cases l
 |x::a,y::b,c,d,l,h=>by
  rw[HT.cj1] at h;show HT.ba5 (x::(a++c)) (y::(b++d))=true;rw[HT.cj1]
  by_cases e:x=y
  · rw[if_pos e] at h ⊢;exact ci1 c d (Nat.succ.inj l) h
  · rw[if_neg e] at h ⊢;exact h
theorem ci2 {t u:Int}(h:t < u):∀r:List Int,HT.ba5 (r++[t]) (r++[u])=true
 |[]=>by
  show HT.ba5 [t] [u]=true;rw[HT.cj1,if_neg (by omega),decide_eq_true h]
 |x::r=>by
  show HT.ba5 (x::(r++[t])) (x::(r++[u]))=true;rw[HT.cj1,if_pos rfl];exact ci2 h r
theorem cv9 (n:Nat):∀k,(U4 n k).Pairwise fun r r'=>HT.ba5 r r'=true
 |0=>en7 _ _
 |k+1=>by
  show ((U4 n k).flatMap _).Pairwise _;rw[List.pairwise_flatMap];refine ⟨fun r hr=> ?_,?_⟩
  · rw[el4]
    exact (List.Pairwise.sublist er8 eq0).imp fun h=>ci2 (by omega) r
  · refine List.Pairwise.imp_of_mem (fun {a b} ha hb h x hx y hy=> ?_) (cv9 n k);obtain ⟨t,_,rfl⟩:=ed2.mp hx;obtain ⟨u,_,rfl⟩:=ed2.mp hy;exact ci1 _ _ (by rw[((ae1 k).mp ha).1,((ae1 k).mp hb).1]) h
theorem dv0 {ts:List (List Int)}(h:ts.Pairwise fun r r'=>HT.ba5 r r'=true):ts.Nodup:=
 ed5.mpr (h.imp fun {a b} h e=>by rw[e,ap4] at h;cases h)
theorem dq9 {ts:List (List Int)}(h:ts.Pairwise fun r r'=>HT.ba5 r r'=true):ck8 ts:=
 h.imp fun {a b} h=>by
   cases z:HT.ba5 b a with
   |false=>rfl
   |true=>have:=bj1 a b a h z;rw[ap4] at this;cases this
theorem U2.uniq {p:List Int}{m:Nat}{ts us:List (List Int)}(h:U2 p m ts)(g:U2 p m us)(tp:x8 p)(lp:p.length<=40)(m1:1<=m):ts=us:=
 as9 ((ew1 (h.nd tp lp m1) (g.nd tp lp m1)).mpr fun t=>by rw[h.mem tp lp m1,g.mem tp lp m1]) h.srt g.srt
theorem U2.six {p:List Int}{m:Nat}{ts:List (List Int)}(h:U2 p m ts)(tp:x8 p)(lp:p.length<=40)(m1:1<=m){f:List Int->Bool}(hf:∀r∈U4 p.length p.length,f r=true↔J3 r (m:Int) p):(U4 p.length p.length).filter f=ts:=by
 have up:((U4 p.length p.length).filter f).Pairwise fun r r'=>HT.ba5 r r'=true:=List.Pairwise.sublist er8 (cv9 _ _)
 refine as9 ((ew1 (dv0 up) (h.nd tp lp m1)).mpr fun r=> ?_) (dq9 up) h.srt;rw[ei0,h.mem tp lp m1];refine ⟨fun ⟨a,b⟩=>⟨(cb5 a).1,(hf r a).mp b⟩,fun ⟨a,b⟩=> ?_⟩
 have e:r∈U4 p.length p.length:=by
   have:=dj5 a;rw[<-b.1] at this;exact this
 exact ⟨e,(hf r e).mpr b⟩
end
end My
namespace My
open PySem L2 Mth
section
variable {P:Program} {w:World} {K:PySem.W.Frag} {mg:Str->Option Value} {base:Heap}
theorem cw0 {X:Cx}(K:PySem.W.Frag)(hK:X.K=K:=by rfl):O7 X (compareOp .NotIn) (rIn K true):=by
 subst hK;exact bu9
theorem cw1 {n:Nat}(h:n<=5000):n < sizeLine:=ee5 h (by decide)
def gro (n:Nat)(r:List Int):List (List Int):=((ef4 n).filter fun (t:Nat)=> !decide ((t:Int)∈r)).map fun (t:Nat)=>r++[(t:Int)]
theorem cb6 (t:Nat)(r:List Int):gro (t+1) r=if (t:Int)∈r then gro t r else gro t r++[r++[(t:Int)]]:=by
 unfold gro;rw[el8,en2,ec4]
 by_cases c:(t:Int)∈r
 · rw[if_pos c,el0 (by rw[decide_eq_true c];decide)];exact ee3 _
 · rw[if_neg c,ek9 (by rw[decide_eq_false c];rfl)];rfl
theorem bo3 (n:Nat)(r:List Int):(gro n r).length<=n:=by
 unfold gro;rw[eb7];exact ed3 (el9 _ _) (by rw[ee9];exact ec0 _)
theorem cb7 (n:Nat):∀ps:List (List Int),(ps.flatMap (gro n)).length<=ps.length*n
 |[]=>by rw[eu5,eh4];exact ec0 _
 |q::ps=>by
  rw[eh1,ec6,eg9,en8];have:=cb7 n ps;have:=bo3 n q;omega
theorem dj6 (x:Int)(r:List Int):inV (.int x) (r.map V.int)=decide (x∈r):=by
 unfold inV;rw[List.any_map,en4,et9,decide_eq_true_iff];refine ⟨fun ⟨y,hy,e⟩=> ?_,fun h=>⟨x,h,?_⟩⟩
 · have e:(y==x)=true:=e;rw[<-beq_iff_eq.mp e];exact hy
 · show (x==x)=true;exact beq_self_eq_true x
theorem bs3:∀r:List Int,(r.map V.int).all Q2=true
 |[]=>rfl
 |x::r=>by rw[eg6,ew2,bs3 r];rfl
def bo4:Sp:=fun vs H Q _=>∃n:Nat,vs=[.int (n:Int)]/\n<=6/\∀(l:Addr) (as:List Addr) (H':Hp),H l=none->e7 H H'->H' l=some (.lst (as.map V.ref))->m9 H' as (U4 n n)->(∀b∈as,H b=none)->Q (.ref l) H'
theorem S1:m8 ["many","found","k","longer","row"] ["many"] (j6 am9):=⟨rfl,rfl,rfl,by decide+kernel,rfl,by decide+kernel,by decide+kernel⟩
theorem an4:(["thing","row"]:List Str).Nodup:=by decide+kernel
theorem cb8 {f:Addr}{fd:FuncData}(F:E7 K "_law_every" "_law_every" am9 f fd)(B:Bl mg):o8 P w K mg base G2 1 f fd ["many"] bo4:=by
 refine F.ok S1 (fun vs H Q E h=> ?_) (fun cdv A outer s H vs Q E hr h=> ?_)
 · obtain ⟨n,rfl,hn,q⟩:=h;rfl
 · obtain ⟨n,rfl,hn,q⟩:=h;have hu:=Q3 hr;refine ⟨_,@c7 _ _ _ _ _ (@i6 _ _ (1) _ _ _ _ S1.nd rfl (Or.inl rfl) (@o6 _ _ _ _ (@c5 _ _ _ _ _ (@o6 _ _ _ _ (@c6 _)) (@c6 _) (by rfl))) (by rfl) (by trivial)) (@c7 _ _ _ _ _ (@o9 _ _ _ _ _ _ _ _ PassesOwn.never rfl (@G5 _ _ _ _ _ _ (by rfl) B.range (@c5 _ _ _ _ _ (pv 0) (@c6 _) (by rfl)) (by rfl)) (@i8 _ _ (2) _ S1.nd rfl (Or.inl rfl) (by trivial)) (@c7 _ _ _ _ _ (@i6 _ _ (3) _ _ _ _ S1.nd rfl (Or.inl rfl) (@o6 _ _ _ _ (@c6 _)) (by rfl) (by trivial)) (@c7 _ _ _ _ _ (@o9 _ _ _ _ _ _ _ _ PassesOwn.never rfl (@E2 _ _ _ _ (pv 1)) (@i8 _ _ (4) _ S1.nd rfl (Or.inr rfl) (by trivial)) (@e8 _ _ _ (@C3 _ _ _ _ (@cq5 _ _ _ _ _ _ _ (pv 3) (@c5 _ _ _ _ _ (@U6 _ _ _ _ _ _ _ _ _ _ _ (["thing","row"]) (1) ([4]) rfl .of (@G5 _ _ _ _ _ _ (by rfl) B.range (@c5 _ _ _ _ _ (pv 0) (@c6 _) (by rfl)) (by rfl)) (fun _ _ _ _ _=>@i8 _ _ (0) _ an4 rfl (Or.inl rfl) (by trivial)) (fun _ _ _ _ _=>@S7 _ _ _ (@m7 _ _ _ _ _ _ _ _ (cw0 K) (pv 0) (pv 1) (by with_unfolding_all rfl))) (fun _ _ _ _ _=>(@i7 _ _ _ _ _ _ _ _ ae6 (pv 1) (@o6 _ _ _ _ (@c5 _ _ _ _ _ (pv 0) (@c6 _) (by rfl))))) (by intro _;rfl)) (@c6 _) (by rfl)) (by rfl) (by rfl) (by rfl) (by rfl) (by rfl)) (by rfl))) (by intro _;rfl)) (@e8 _ _ _ (@i6 _ _ (1) _ _ _ _ S1.nd rfl (Or.inl rfl) (pv 3) (by rfl) (by trivial))))) (by intro _;rfl)) (@e8 _ _ _ (@j9 _ _ _ _ (pv 1)))),?_⟩
   try dsimp only[y7,Cx.nox,Cx.wish]
   refine ⟨ed7 _,fun e0 he0=> ?_⟩;have s1:e7 H (c9 H e0 (.lst [])):=e7.upd_new he0;have h1e:(c9 H e0 (.lst [])) e0=some (.lst (([]:List Int).map V.int)):=c8;generalize (c9 H e0 (.lst []))=H1 at s1 h1e ⊢;refine ⟨(show 1<=sizeLine by decide),fun F0 hF0=> ?_⟩;have s2:e7 H1 (c9 H1 F0 (.lst [V.ref e0])):=e7.upd_new hF0;have h2F:(c9 H1 F0 (.lst [V.ref e0])) F0=some (.lst (([e0]:List Addr).map V.ref)):=c8;generalize (c9 H1 F0 (.lst [V.ref e0]))=H2 at s2 h2F ⊢;have h2e:=s2 _ _ h1e;have s02:=s1.trans s2;refine ⟨_,rfl,(n:Int),rfl,by omega,by omega,?_⟩;rw[show ((n:Int)).toNat=n by omega]
   refine C6 (lo:=0) (n:=n) (fun i σ H3=>∃(F:Addr) (as:List Addr) (v2 v3 v4:Option V),σ=[some (.int (n:Int)),some (.ref F),v2,v3,v4]/\H3 F=some (.lst (as.map V.ref))/\m9 H3 as (U4 n i)/\e7 H H3/\H F=none/\∀b∈as,H b=none)
     ⟨F0,[e0],none,none,none,rfl,h2F,⟨rfl,fun j b r e1 e2=>by
       rcases j with _|j
       · cases e1;cases e2;exact h2e
       · cases e1⟩,s02,s1.free hF0,(fun b hb=>by rw[ec9.mp hb];exact he0)⟩ ?_ ?_
   · rintro i σ H3 hi ⟨F,as,v2,v3,v4,rfl,h3F,rows,s3,hF,frA⟩;have lenA:=ci0 n (by omega) i (by omega);refine ⟨ed7 _,fun L hL=> ?_⟩;have nFL:F≠L:=g7 h3F hL;have hL0:H L=none:=s3.free hL;have kb1:j5 L H3 (c9 H3 L (.lst [])):=j5.upd;have h4L:(c9 H3 L (.lst [])) L=some (.lst (([]:List Addr).map V.ref)):=c8;generalize (c9 H3 L (.lst []))=H4 at kb1 h4L ⊢;have h4F:=kb1 _ _ h3F nFL
     have nLas:L∉as:=fun z=>by
       obtain ⟨r,hr'⟩:=W5 rows z;rw[hL] at hr';cases hr'
     refine ⟨_,rfl,F,rfl,⟨_,g9.of h4F⟩,K2 (K:=K) (a:=F) (xs:=as.map V.ref) (fun j σ H5=>∃(bs:List Addr) (v4:Option V),σ=[some (.int (n:Int)),some (.ref F),some (.int ((0:Int)+(i:Int))),some (.ref L),v4]/\H5 L=some (.lst (bs.map V.ref))/\m9 H5 bs (((U4 n i).take j).flatMap (gro n))/\j5 L H3 H5/\L∉bs/\∀b∈bs,H b=none)
       ⟨[],v4,rfl,h4L,⟨rfl,fun j b r h=>by cases h⟩,kb1,(fun z=>by cases z),(fun b hb=>by cases hb)⟩ (fun j σ H5 _ ⟨_,_,_,_,_,k,_⟩=>g9.of (k _ _ h3F nFL)) ?_ ?_⟩
     · rintro j x σ H5 hj ⟨bs,v4,rfl,h5L,rowsB,kb5,nLb,frB⟩
       obtain ⟨a,ha,rfl⟩:∃a,as[j]? =some a/\x=V.ref a:=by
         rw[ec1] at hj
         cases e:as[j]? with
         |none=>rw[e] at hj;cases hj
         |some a=>rw[e] at hj;exact ⟨a,rfl,(Option.some.inj hj).symm⟩
       have jl:j < (U4 n i).length:=by rw[<-rows.1];exact (eb9.mp ha).1
       obtain ⟨p,hp⟩:∃p,(U4 n i)[j]? =some p:=⟨_,eb8 jl⟩;have lp:p.length=i:=((ae1 i).mp (ec8 hp)).1;have h3a:=rows.2 j a p ha hp
       have naL:a≠L:=fun z=>nLas (z▸ec8 ha)
       have h5a:=kb5 _ _ h3a naL
       have etk:(U4 n i).take (j+1)=(U4 n i).take j++[p]:=by rw[ez1,hp];rfl
       have cntj:bs.length<=4320:=by
         rw[rowsB.1];have:=cb7 n ((U4 n i).take j);have l2:((U4 n i).take j).length<=720:=ed3 (List.length_take_le _ _) (by omega);have:((U4 n i).take j).length*n<=720*6:=ej6 l2 hn;omega
       refine ⟨_,rfl,.inl ⟨rfl,_,g9.of h5L⟩,_,rfl,(n:Int),rfl,by omega,by omega,?_⟩;rw[show ((n:Int)).toNat=n by omega];refine S8 (lo:=0) (n:=n) (fun t ys σ H6=>∃(cs:List Addr) (v:Option V),σ=[v,some (.ref a)]/\ys=cs.map V.ref/\m9 H6 cs (gro t p)/\e7 H5 H6/\∀c∈cs,H5 c=none) ⟨[],none,rfl,rfl,⟨rfl,fun j b r h=>by cases h⟩,e7.refl _,fun c hc=>by cases hc⟩ ?_ ?_
       · rintro t ys σ H6 ht ⟨cs,v,rfl,rfl,rowsC,s6,fr⟩
         have e0:(0:Int)+(t:Int)=(t:Int):=by omega
         rw[e0];have h6a:=s6 _ _ h5a
         have lc:cs.length<=6:=by rw[rowsC.1];exact ed3 (bo3 t p) (by omega)
         refine ⟨_,rfl,_,rfl,a,_,rfl,.inl (g9.of h6a),rfl,bs3 p,_,rfl,?_⟩;rw[dj6]
         by_cases c:(t:Int)∈p
         · rw[decide_eq_true c];refine B6 ⟨cs,_,rfl,rfl,?_,s6,fr⟩;rw[cb6,if_pos c];exact rowsC
         · rw[decide_eq_false c];refine O8 ⟨_,rfl,_,rfl,(show 1<=sizeLine by decide),fun o ho=> ?_⟩;have s8:e7 H6 (c9 H6 o (.lst [V.int (t:Int)])):=e7.upd_new ho;have h8o:(c9 H6 o (.lst [V.int (t:Int)])) o=some (.lst [V.int (t:Int)]):=c8;generalize (c9 H6 o (.lst [V.int (t:Int)]))=H8 at s8 h8o ⊢;refine ⟨a,o,_,_,rfl,rfl,s8 _ _ h6a,h8o,ei1 (t5 (by simp only[eb7,eq4];omega)),fun e he=> ?_⟩
           have ec:p.map V.int++[V.int (t:Int)]=(p++[(t:Int)]).map V.int:=by rw[ec4];rfl
           rw[ec];have s9:e7 H6 (c9 H8 e (.lst ((p++[(t:Int)]).map V.int))):=s8.trans (e7.upd_new he);have h9e:(c9 H8 e (.lst ((p++[(t:Int)]).map V.int))) e=some (.lst ((p++[(t:Int)]).map V.int)):=c8;generalize (c9 H8 e (.lst ((p++[(t:Int)]).map V.int)))=H9 at s9 h9e ⊢;refine ⟨t5 (by rw[eb7];omega),cs++[e],_,rfl,by rw[ec4];rfl,?_,s6.trans s9,fun b hb=> ?_⟩
           · rw[cb6,if_neg c];exact O2 (t6 rowsC fun b hb o e=>s9 _ _ e) h9e
           · rcases ed0.mp hb with z|z
             · exact fr b z
             · rw[ec9.mp z];exact (s6.trans s8).free he
       · rintro ys σ H6 ⟨cs,v,rfl,rfl,rowsC,s6,fr⟩ D hD;have s7:e7 H5 (c9 H6 D (.lst (cs.map V.ref))):=s6.trans (e7.upd_new hD);have h7D:(c9 H6 D (.lst (cs.map V.ref))) D=some (.lst (cs.map V.ref)):=c8
         have r7:m9 (c9 H6 D (.lst (cs.map V.ref))) cs (gro n p):=t6 rowsC fun b hb o e=>e7.upd_new hD _ _ e
         generalize (c9 H6 D (.lst (cs.map V.ref)))=H7 at s7 h7D r7 ⊢
         have lc:cs.length<=6:=by rw[rowsC.1];exact ed3 (bo3 n p) (by omega)
         refine ⟨L,D,_,_,rfl,rfl,s7 _ _ h5L,h7D,ei1 (cw1 (by rw[eb7,eb7];omega)),?_⟩
         have nLc:L∉cs:=fun z=>by have:=fr L z;rw[h5L] at this;cases this
         rw[<-ec4];refine ⟨bs++cs,_,rfl,c8,?_,(kb5.trans (s7.but L)).upd_a,fun z=> ?_,fun z hz=> ?_⟩
         · rw[etk,el6,eh1,en1,ee3]
           refine t6 (be6 (t6 rowsB fun b hb o e=>s7 _ _ e) r7) fun b hb o e=> ?_
           rw[g6 (show b≠L from fun z=> ?_)]
           · exact e
           · rw[z] at hb
             rcases ed0.mp hb with y|y
             · exact nLb y
             · exact nLc y
         · rcases ed0.mp z with y|y
           · exact nLb y
           · exact nLc y
         · rcases ed0.mp hz with y|y
           · exact frB z y
           · exact (s3.kb kb5 hL0).free (fr z y)
     · rintro σ H5 ⟨bs,v4,rfl,h5L,rowsB,kb5,nLb,frB⟩;rw[eb7,rows.1,ef3] at rowsB;exact ⟨_,rfl,L,bs,_,_,_,rfl,h5L,rowsB,s3.kb kb5 hL0,hL0,frB⟩
   · rintro σ H3 ⟨F,as,v2,v3,v4,rfl,h3F,rows,s3,hF,frA⟩;exact ⟨_,rfl,q F as H3 hF s3 h3F rows frA⟩
def bg8:Sp:=fun vs H Q _=>∃(a:Addr) (p:List Int) (m:Nat),vs=[.ref a,.int (m:Int)]/\H a=some (.lst (p.map V.int))/\x8 p/\p.length<=6/\1<=m/\∀(l:Addr) (as:List Addr) (ts:List (List Int)) (H':Hp),H l=none->e7 H H'->H' l=some (.lst (as.map V.ref))->m9 H' as ts->(∀us,U2 p m us->ts=us)->ts.length<=720->(∀b∈as,H b=none)->Q (.ref l) H'
theorem cb9:m8 ["p","m"] ["p","m"] (j6 an0):=⟨rfl,rfl,rfl,by decide+kernel,rfl,by decide+kernel,by decide+kernel⟩
theorem az8:(["r","p","m"]:List Str).Nodup:=by decide+kernel
theorem cc0 {f:Addr}{fd:FuncData}(F:E7 K "_law_roots" "_law_roots" an0 f fd)(B:Bl mg)(c_law_every:o5 P w K mg base "_law_every" 1 ["many"] bo4)(c_law_power:o5 P w K mg base "_law_power" 2 ["p","m"] ah3):o8 P w K mg base G2 3 f fd ["p","m"] bg8:=by
 refine F.ok cb9 (fun vs H Q E h=> ?_) (fun cdv A outer s H vs Q E hr h=> ?_)
 · obtain ⟨a,p,m,rfl,ha,tp,lp,m1,q⟩:=h;rfl
 · obtain ⟨a,p,m,rfl,ha,tp,lp,m1,q⟩:=h;have hr_law_every:n6 1 _:=hr.mono (by decide);have hr_law_power:n6 2 _:=hr.mono (by decide);have hu:=Q3 hr;refine ⟨_,@e8 _ _ _ (@j9 _ _ _ _ (@U6 _ _ _ _ _ _ _ _ _ _ _ (["r","p","m"]) (1) ([0,1]) rfl .of (@E2 _ _ _ _ (@j7 _ _ _ _ _ _ _ _ _ _ c_law_every hr_law_every (@c5 _ _ _ _ _ (@A0 _ _ _ _ _ B.len (@c5 _ _ _ _ _ (pv 0) (@c6 _) (by rfl)) (by rfl) (by rfl)) (@c6 _) (by rfl)) (by rfl) (by decide) (by rfl) (by rfl))) (fun _ _ _ _ _=>@i8 _ _ (0) _ az8 rfl (Or.inl rfl) (by trivial)) (fun _ _ _ _ _=>@S7 _ _ _ (@m7 _ _ _ _ _ _ _ _ (dg6 K 0 hu) (@j7 _ _ _ _ _ _ _ _ _ _ c_law_power hr_law_power (@c5 _ _ _ _ _ (pv 0) (@c5 _ _ _ _ _ (pv 2) (@c6 _) (by rfl)) (by rfl)) (by rfl) (by decide) (by rfl) (by rfl)) (pv 1) (n0 _))) (fun _ _ _ _ _=>(pv 0)) (by intro _;rfl))),?_⟩
   try dsimp only[y7,Cx.nox,Cx.wish]
   refine ⟨_,rfl,a,_,rfl,.inl (g9.of ha),p.length,?_,lp,fun F as H2 hF s2 h2F rows frA=> ?_⟩
   · rw[eb7];rfl
   have lenA:=ci0 p.length (by omega) p.length (by omega);obtain ⟨f,hf⟩:∃f:List Int->Bool,∀r,f r=true↔J3 r (m:Int) p:=⟨fun r=>@decide _ (Classical.propDecidable _),fun r=>@decide_eq_true_iff _ (Classical.propDecidable _)⟩
   refine ⟨F,rfl,⟨_,g9.of h2F⟩,Z9 (K:=K) (a:=F) (xs:=as.map V.ref) (fun i ys σ H5=>∃(v:Option V) (cs:List Addr),σ=[v,some (.ref a),some (.int (m:Int))]/\ys=cs.map V.ref/\m9 H5 cs (((U4 p.length p.length).take i).filter f)/\e7 H2 H5/\∀c∈cs,H c=none)
     ⟨none,[],rfl,rfl,⟨rfl,fun j b r h=>by cases h⟩,e7.refl _,(fun c hc=>by cases hc)⟩ (fun i ys σ H5 _ ⟨_,_,_,_,_,k,_⟩=>g9.of (k _ _ h2F)) ?_ ?_⟩
   · rintro i x ys σ H5 hi ⟨v,cs,rfl,rfl,rowsC,s5,frC⟩
     obtain ⟨b,hb,rfl⟩:∃b,as[i]? =some b/\x=V.ref b:=by
       rw[ec1] at hi
       cases e:as[i]? with
       |none=>rw[e] at hi;cases hi
       |some a=>rw[e] at hi;exact ⟨a,rfl,(Option.some.inj hi).symm⟩
     have il:i < (U4 p.length p.length).length:=by rw[<-rows.1];exact (eb9.mp hb).1
     obtain ⟨r,hr⟩:∃r,(U4 p.length p.length)[i]? =some r:=⟨_,eb8 il⟩;obtain ⟨tr,lr⟩:=cb5 (ec8 hr);have hb5:=s5 _ _ (rows.2 i b r hb hr)
     have ly:cs.length<=720:=by rw[rowsC.1];exact ed3 (el9 _ _) (ed3 (List.length_take_le _ _) (by omega))
     refine ⟨_,rfl,_,rfl,b,r,(m:Int),rfl,⟨hb5,tr,by omega⟩,fun l t H6 hl s6 pw h6=> ?_⟩;have s56:=s5.trans s6;refine ⟨_,rfl,l,a,_,_,_,rfl,rfl,g9.of h6,g9.of (s56 _ _ (s2 _ _ ha)),Q9 _ _ _ _ _,_,rfl,?_⟩;rw[j8 hr,en2]
     by_cases c:t=p
     · rw[decide_eq_true c,ek9 ((hf r).mpr (by rw[<-c];exact pw))];refine O8 ⟨_,rfl,t5 (by rw[eb7];omega),_,cs++[b],rfl,by rw[ec4];rfl,?_,s56,fun c hc=> ?_⟩
       · exact O2 (t6 rowsC fun b hb o e=>s6 _ _ e) (s6 _ _ hb5)
       · rcases ed0.mp hc with y|y
         · exact frC c y
         · rw[ec9.mp y];exact frA b (ec8 hb)
     · rw[decide_eq_false c,el0 (fun y=>c (pw.uniq ((hf r).mp y)))];refine B6 ⟨_,cs,rfl,rfl,?_,s56,frC⟩;rw[eq2,ee3]
       exact t6 rowsC fun b hb o e=>s6 _ _ e
   · rintro ys σ H5 ⟨v,cs,rfl,rfl,rowsC,s5,frC⟩ D hD;rw[eb7,rows.1,ef3] at rowsC;refine q D cs _ _ ((s2.trans s5).free hD) ((s2.trans s5).trans (e7.upd_new hD)) c8 (t6 rowsC fun b hb o e=>e7.upd_new hD _ _ e) (fun us au=> ?_) (ed3 (el9 _ _) lenA) frC
     exact au.six tp (by omega) m1 fun r hr=>hf r
end
end My
namespace My
open PySem L2 Mth
section
variable {P:Program} {w:World} {K:PySem.W.Frag} {mg:Str->Option Value} {base:Heap} {q_TurnError q_NoTurn q_NoFit q_NoRounds q_NoNumber q_NoRoot q_TooMany q_NoKind q_NoText q_NoName q_NoRow:Addr}
def cc1 (q:Addr):Sp:=fun vs H _ E=>∃(n:Int),vs=[.int n]/\2000 < n/\E (.ref q) none H
theorem bk9 {f:Addr}{fd:FuncData}(F:E7 K "must_be_few" "must_be_few" Y8 f fd)(g_MOST_TOLD:∃t,mg "MOST_TOLD"=some (.int 2000 t))(e_TooMany:Err K mg "TooMany" q_TooMany):o8 P w K mg base (CX1 P w) 1 f fd ["many"] (cc1 q_TooMany):=by
 refine F.okx ap9 (fun vs H Q E h=> ?_) (fun cdv A outer s H vs Q E hr h=> ?_)
 · obtain ⟨n,rfl,hn,q⟩:=h;rfl
 · obtain ⟨n,rfl,hn,q⟩:=h;obtain ⟨_,m_MOST_TOLD⟩:=g_MOST_TOLD;refine ⟨_,@e8 _ _ _ (@B5 _ _ _ _ _ _ _ _ (@m7 _ _ _ _ _ _ _ _ ba4 (pv 0) (@O4 _ _ (.int 2000) _ _ (by rfl) m_MOST_TOLD ⟨_,rfl⟩ (by decide)) (n0 _)) (@e8 _ _ _ (@cy6 _ _ _ _ _ _ _ _ _ cr3 rfl e_TooMany (@aw3 _ _ _ _) (by rfl) (by rfl) (by decide))) (@r6 _)),?_⟩
   try dsimp only[y7,Cx.nox,Cx.wish]
   refine ⟨_,rfl,_,_,rfl,rfl,_,rfl,?_⟩;rw[decide_eq_true hn];exact O8 q
def cc2 (qm:Addr):Sp:=fun vs H _ E=>∃(a:Addr) (p:List Int) (m:Nat),vs=[.ref a,.int (m:Int)]/\L4 H a p/\1<=m/\2000 < M6 p m/\∀H',e7 H H'->E (.ref qm) none H'
theorem bt3 {f:Addr}{fd:FuncData}(F:E7 K "all_roots" "all_roots" ae4 f fd)(c_how_many_roots:o5 P w K mg base "how_many_roots" 4 ["p","m"] aj7)(c_must_be_few:ay0 P w K mg base "must_be_few" 1 ["many"] (fun vs H Q E=>az2 vs H Q E\/(cc1 q_TooMany) vs H Q E)):o8 P w K mg base (CX1 P w) 44 f fd ["p","m"] (cc2 q_TooMany):=by
 refine F.okx N4 (fun vs H Q E h=> ?_) (fun cdv A outer s H vs Q E hr h=> ?_)
 · obtain ⟨a,p,m,rfl,tp,m1,big,k⟩:=h;rfl
 · obtain ⟨a,p,m,rfl,tp,m1,big,k⟩:=h;have hr_how_many_roots:n6 4 _:=hr.mono (by decide);have hr_must_be_few:n6 1 _:=hr.mono (by decide);refine ⟨_,@c7 _ _ _ _ _ (@i6 _ _ (2) _ _ _ _ N4.nd rfl (Or.inl rfl) (@j7 _ _ _ _ _ _ _ _ _ _ c_how_many_roots hr_how_many_roots (@c5 _ _ _ _ _ (pv 0) (@c5 _ _ _ _ _ (pv 1) (@c6 _) (by rfl)) (by rfl)) (by rfl) (by decide) (by rfl) (by rfl)) (by rfl) (by trivial)) (@c7 _ _ _ _ _ (@C3 _ _ _ _ (@df6 _ _ _ _ _ _ _ _ _ _ _ c_must_be_few hr_must_be_few (@cr4 _ _ _ _ _ _ _ _ _ _ _ _ _ _ _ _ fun _ _ _ h=>h) (@c5 _ _ _ _ _ (pv 2) (@c6 _) (by rfl)) (by rfl) (by decide) (by rfl) (by rfl)) (by rfl)) (@cn0 _ _)),?_⟩
   try dsimp only[y7,Cx.nox,Cx.wish]
   refine ⟨_,rfl,_,rfl,a,p,m,rfl,tp,m1,fun H1 s1=> ?_⟩;exact ⟨_,rfl,.inr ⟨_,rfl,by omega,k H1 s1⟩⟩
def bc2:Sp:=fun vs H Q _=>∃(a:Addr) (p:List Int) (m:Nat),vs=[.ref a,.int (m:Int)]/\L4 H a p/\1<=m/\((2000 < M6 p m/\∀H',e7 H H'->Q (.str "TooMany") H')\/
 (M6 p m<=2000/\∀(o:Addr) (bs:List Addr) (ts:List (List Int)) (H':Hp),H o=none->H' o=some (.lst (bs.map V.ref))->m9 H' bs ts->U2 p m ts->bs.Nodup->(∀b∈bs,H b=none)->o∉bs->Kp H H'->Q (.ref o) H'))
theorem S2:m8 ["p","m","found","caught","e"] ["p","m"] (j6 an1):=⟨rfl,rfl,rfl,by decide+kernel,rfl,by decide+kernel,by decide+kernel⟩
theorem cc3 {f:Addr}{fd:FuncData}(F:E7 K "_law_asked" "_law_asked" an1 f fd)(c_all_roots:ay0 P w K mg base "all_roots" 44 ["p","m"] (fun vs H Q E=>bk1 vs H Q E\/(cc2 q_TooMany) vs H Q E))(c_law_word:o5 P w K mg base "_law_word" 1 ["caught"] (bz7 q_NoTurn q_NoFit q_NoRounds q_NoNumber q_NoRoot q_TooMany q_NoKind q_NoText q_NoName q_NoRow))(ER:bi5 K mg q_TurnError [("NoTurn",q_NoTurn),("NoFit",q_NoFit),("NoRounds",q_NoRounds),("NoNumber",q_NoNumber),("NoRoot",q_NoRoot),("TooMany",q_TooMany),("NoKind",q_NoKind),("NoText",q_NoText),("NoName",q_NoName),("NoRow",q_NoRow)]):o8 P w K mg base G2 45 f fd ["p","m"] bc2:=by
 refine F.ok S2 (fun vs H Q E h=> ?_) (fun cdv A outer s H vs Q E hr h=> ?_)
 · obtain ⟨a,p,m,rfl,tp,m1,h⟩:=h;rfl
 · obtain ⟨a,p,m,rfl,tp,m1,h⟩:=h;have hr_all_roots:n6 44 _:=hr.mono (by decide);have hr_law_word:n6 1 _:=hr.mono (by decide);refine ⟨_,@c7 _ _ _ _ _ (@i6 _ _ (2) _ _ _ _ S2.nd rfl (Or.inl rfl) (@bu3 _ _ _) (by rfl) (by trivial)) (@c7 _ _ _ _ _ (@i6 _ _ (3) _ _ _ _ S2.nd rfl (Or.inl rfl) (@bu3 _ _ _) (by rfl) (by trivial)) (@c7 _ _ _ _ _ (@do1 _ _ _ _ _ (4) _ _ _ _ _ _ _ (@do0 _ _ _ _ _ _ _ _ _ _ (2) _ _ _ c_all_roots hr_all_roots S2.nd rfl (Or.inl rfl) (@c5 _ _ _ _ _ (pv 0) (@c5 _ _ _ _ _ (pv 1) (@c6 _) (by rfl)) (by rfl)) (by rfl) (by decide) (by rfl) (by rfl) (by rfl) (by trivial)) ER.top S2.nd rfl rfl (fun _=>(@e8 _ _ _ (@i6 _ _ (3) _ _ _ _ S2.nd rfl (Or.inl rfl) (pv 4) (by rfl) (by trivial)))) (by rfl) (by rfl) (by rfl) (by rfl) (by decide) (by trivial)) (@c7 _ _ _ _ _ (@B5 _ _ _ _ _ _ _ _ (@m7 _ _ _ _ _ _ _ _ dl4 (pv 3) (@bu3 _ _ _) (n0 _)) (@e8 _ _ _ (@j9 _ _ _ _ (pv 2))) (@r6 _)) (@e8 _ _ _ (@j9 _ _ _ _ (@j7 _ _ _ _ _ _ _ _ _ _ c_law_word hr_law_word (@c5 _ _ _ _ _ (pv 3) (@c6 _) (by rfl)) (by rfl) (by decide) (by rfl) (by rfl))))))),?_⟩;refine du4 ?_;intros
   try dsimp only[y7,Cx.nox,Cx.wish]
   rcases h with ⟨big,q⟩|⟨few,q⟩
   · refine ⟨_,rfl,_,rfl,.inr ⟨a,p,m,rfl,tp,m1,big,fun H1 s1=>⟨q_TooMany,rfl,ER.exm ("TooMany",q_TooMany) (by simp),fun a ha=> ?_⟩⟩⟩;refine ⟨_,rfl,?_⟩;refine ⟨_,rfl,rfl,_,rfl,?_⟩;refine B6 ?_;exact ⟨_,rfl,a,"TooMany",q_TooMany,rfl,c8,by simp,fun H' s=>q H' ((s1.trans (e7.upd_new ha)).trans s)⟩
   · refine ⟨_,rfl,_,rfl,.inl ⟨a,p,m,rfl,tp,m1,few,fun o bs ts H3 ho h3o rows all bnd bfr ob kp=> ?_⟩⟩;refine ⟨_,rfl,rfl,_,rfl,?_⟩;exact O8 ⟨_,rfl,q o bs ts H3 ho h3o rows all bnd bfr ob kp⟩
theorem az9 {n:Nat}(h:n<=2000):n < sizeLine:=ee5 h (by decide)
def bg9:Sp:=fun vs H Q _=>∃(o a:Addr) (p:List Int) (m:Nat) (bs:List Addr) (ts:List (List Int)),vs=[.ref o,.ref a,.int (m:Int),.int ((M6 p m:Nat):Int)]/\H o=some (.lst (bs.map V.ref))/\m9 H bs ts/\U2 p m ts/\L4 H a p/\1<=m/\M6 p m<=2000/\∀H',e7 H H'->Q (.bl true) H'
theorem bc5:m8 ["found","p","m","many"] ["found","p","m","many"] (j6 Z6):=⟨rfl,rfl,rfl,by decide+kernel,rfl,by decide+kernel,by decide+kernel⟩
theorem ak6:(["r","p","m"]:List Str).Nodup:=by decide+kernel
theorem ag9:(["k","found"]:List Str).Nodup:=by decide+kernel
theorem bc6 {f:Addr}{fd:FuncData}(F:E7 K "_law_told_right" "_law_told_right" Z6 f fd)(B:Bl mg)(c_law_is_turn:o5 P w K mg base "_law_is_turn" 1 ["found","many"] am0)(c_law_power:o5 P w K mg base "_law_power" 2 ["p","m"] ah3)(c_law_roots:o5 P w K mg base "_law_roots" 3 ["p","m"] bg8):o8 P w K mg base G2 4 f fd ["found","p","m","many"] bg9:=by
 refine F.ok bc5 (fun vs H Q E h=> ?_) (fun cdv A outer s H vs Q E hr h=> ?_)
 · obtain ⟨o,a,p,m,bs,ts,rfl,ho,rows,all,ta,m1,few,q⟩:=h;rfl
 · obtain ⟨o,a,p,m,bs,ts,rfl,ho,rows,all,ta,m1,few,q⟩:=h;have hr_law_is_turn:n6 1 _:=hr.mono (by decide);have hr_law_power:n6 2 _:=hr.mono (by decide);have hr_law_roots:n6 3 _:=hr.mono (by decide);have hu:=Q3 hr;have hu2:_+1+1 < cLine:=ee5 (ep2 (by decide:2<=64) _) hr.units;refine ⟨_,@c7 _ _ _ _ _ (@B5 _ _ _ _ _ _ _ _ (@aa8 _ _ _ _ _ _ _ (@N8 _ _ _ _ (@O6 _ _ _ (@ai3 _ _ _ _ _ _ B.isi (@c5 _ _ _ _ _ (pv 0) (@c5 _ _ _ _ _ (@ak9 _ _ B.list (by rfl)) (@c6 _) (by rfl)) (by rfl)) (by rfl) (by rfl) (by rfl)) (by intro _;rfl))) (@aa7 _ _ _ _ (@m7 _ _ _ _ _ _ _ _ bh1 (@A0 _ _ _ _ _ B.len (@c5 _ _ _ _ _ (pv 0) (@c6 _) (by rfl)) (by rfl) (by rfl)) (pv 3) (n0 _)))).pt (@e8 _ _ _ (@j9 _ _ _ _ (@M9 _ _ _ _))) (@r6 _)) (@c7 _ _ _ _ _ (@B5 _ _ _ _ _ _ _ _ (@m7 _ _ _ _ _ _ _ _ (ae7 1 hu2) (@U6 _ _ _ _ _ _ _ _ _ _ _ (["r","p","m"]) (1) ([1,2]) rfl .of (@E2 _ _ _ _ (pv 0)) (fun _ _ _ _ _=>@i8 _ _ (0) _ ak6 rfl (Or.inl rfl) (by trivial)) (fun _ _ _ _ _=>@S7 _ _ _ (@aa8 _ _ _ _ _ _ _ (@N8 _ _ _ _ (@O6 _ _ _ (@j7 _ _ _ _ _ _ _ _ _ _ c_law_is_turn hr_law_is_turn (@c5 _ _ _ _ _ (pv 0) (@c5 _ _ _ _ _ (@be2 _ _ _ _ _ K (by exact B.len) (@c5 _ _ _ _ _ (pv 1) (@c6 _) (by rfl)) (by rfl) (by rfl) (by rfl)) (@c6 _) (by rfl)) (by rfl)) (by rfl) (by decide) (by rfl) (by rfl)) (by intro _;rfl))) (@aa7 _ _ _ _ (@m7 _ _ _ _ _ _ _ _ (cf7 K 0 hu) (@j7 _ _ _ _ _ _ _ _ _ _ c_law_power hr_law_power (@c5 _ _ _ _ _ (pv 0) (@c5 _ _ _ _ _ (pv 2) (@c6 _) (by rfl)) (by rfl)) (by rfl) (by decide) (by rfl) (by rfl)) (pv 1) (n0 _)))).pt) (fun _ _ _ _ _=>(pv 0)) (by intro _;rfl)) (@o6 _ _ _ _ (@c6 _)) (n0 _)) (@e8 _ _ _ (@j9 _ _ _ _ (@M9 _ _ _ _))) (@r6 _)) (@c7 _ _ _ _ _ (@B5 _ _ _ _ _ _ _ _ (@m7 _ _ _ _ _ _ _ _ (ae7 0 hu) (@U6 _ _ _ _ _ _ _ _ _ _ _ (["k","found"]) (1) ([0]) rfl .of (@O1 _ _ _ _ _ _ _ (by rfl) B.range (@c5 _ _ _ _ _ (@g8 _ _ _ _) (@c5 _ _ _ _ _ (pv 3) (@c6 _) (by rfl)) (by rfl)) (by rfl) (by rfl)) (fun _ _ _ _ _=>@i8 _ _ (0) _ ag9 rfl (Or.inl rfl) (by trivial)) (fun _ _ _ _ _=>@S7 _ _ _ (@N8 _ _ _ _ (@m7 _ _ _ _ _ _ _ _ (cv7 (Nat.lt_of_succ_lt hu)) (@J2 _ _ _ _ _ _ (be1 K) B9 (pv 1) (@i7 _ _ _ _ _ _ _ _ V5 (pv 0) (@g8 _ _ _ _)) (fun _ _=>rfl)) (@J2 _ _ _ _ _ _ (be1 K) B9 (pv 1) (pv 0) (fun _ _=>rfl)) (by with_unfolding_all rfl)))) (fun _ _ _ _ _=>(pv 0)) (by intro _;rfl)) (@o6 _ _ _ _ (@c6 _)) (n0 _)) (@e8 _ _ _ (@j9 _ _ _ _ (@M9 _ _ _ _))) (@r6 _)) (@e8 _ _ _ (@j9 _ _ _ _ (@dr4 _ _ _ _ _ _ _ (@ac6 _ _ _ _ _ _ _ _ ba4 (@A0 _ _ _ _ _ B.len (@c5 _ _ _ _ _ (pv 1) (@c6 _) (by rfl)) (by rfl) (by rfl)) (@g8 _ _ _ _) (n0 _)) (@cm8 _ _ _ _ _ (@ac6 _ _ _ _ _ _ _ _ (ao4 1 hu2) (pv 0) (@j7 _ _ _ _ _ _ _ _ _ _ c_law_roots hr_law_roots (@c5 _ _ _ _ _ (pv 1) (@c5 _ _ _ _ _ (pv 2) (@c6 _) (by rfl)) (by rfl)) (by rfl) (by decide) (by rfl) (by rfl)) (n0 _)))))))),?_⟩;refine bb7 ?_;intros
   try dsimp only[y7,Cx.nox,Cx.wish]
   have tp:=ta.2.1;have l1:=ta.2.2;have lts:=all.len;have lbs:bs.length=ts.length:=rows.1;refine ⟨_,rfl,_,"list",_,true,rfl,.lst ho,Z1 K "list",true,rfl,B6 ?_⟩;refine ⟨_,rfl,o,_,rfl,.inl (g9.of ho),_,rfl,rfl,_,rfl,bt7 (by rw[eb7,lbs,lts]) ?_⟩
   have rows0:∀H',m9 H' [] []:=fun H'=>⟨rfl,fun j b r h=>by cases h⟩
   refine ⟨_,rfl,o,rfl,⟨_,g9.of ho⟩,Z9 (K:=K) (a:=o) (xs:=bs.map V.ref) (fun i ys σ H2=>∃v:Option V,σ=[v,some (.ref a),some (.int (m:Int))]/\ys=[]/\e7 H H2)
     ⟨none,rfl,rfl,e7.refl _⟩ (fun i ys σ H2 _ ⟨_,_,_,s⟩=>g9.of (s _ _ ho)) ?_ ?_⟩
   · rintro i x ys σ H2 hi ⟨v,rfl,rfl,s2⟩
     obtain ⟨b,hb,rfl⟩:∃b,bs[i]? =some b/\x=V.ref b:=by
       rw[ec1] at hi
       cases e:bs[i]? with
       |none=>rw[e] at hi;cases hi
       |some a=>rw[e] at hi;exact ⟨a,rfl,(Option.some.inj hi).symm⟩
     have il:i < ts.length:=by rw[<-rows.1];exact (eb9.mp hb).1
     obtain ⟨r,hr⟩:∃r,ts[i]? =some r:=⟨_,eb8 il⟩;have rr:=all.root tp l1 m1 r (ec8 hr);have lr':p.length=r.length:=rr.2.1;have hb2:=s2 _ _ (rows.2 i b r hb hr);refine ⟨_,rfl,_,rfl,a,_,rfl,.inl (g9.of (s2 _ _ ta.1)),b,r,p.length,by rw[eb7];rfl,⟨hb2,rr.1,by omega⟩,by omega,fun H3 s3=>⟨true,rfl,B6 ?_⟩⟩;have s23:=s2.trans s3;refine ⟨_,rfl,_,rfl,b,r,(m:Int),rfl,⟨s3 _ _ hb2,rr.1,by omega⟩,fun l t H4 hl s4 pw h4=> ?_⟩;rw[pw.uniq rr.2] at h4;refine ⟨_,rfl,l,a,_,_,_,rfl,rfl,g9.of h4,g9.of ((s23.trans s4) _ _ ta.1),Q9 _ _ _ _ _,_,rfl,?_⟩;rw[decide_eq_true rfl];exact B6 ⟨_,rfl,rfl,s23.trans s4⟩
   rintro ys σ H2 ⟨v,rfl,rfl,s2⟩ w1 hw1;have s3:e7 H2 (c9 H2 w1 (.lst [])):=e7.upd_new hw1;have h3w:(c9 H2 w1 (.lst [])) w1=some (.lst (([]:List Addr).map V.ref)):=c8;generalize (c9 H2 w1 (.lst []))=H3 at s3 h3w ⊢;refine ⟨ed7 _,fun w2 hw2=> ?_⟩;have s4:e7 H3 (c9 H3 w2 (.lst [])):=e7.upd_new hw2;have h4w:(c9 H3 w2 (.lst [])) w2=some (.lst (([]:List Addr).map V.ref)):=c8;generalize (c9 H3 w2 (.lst []))=H4 at s4 h4w ⊢;refine ⟨w1,w2,_,_,_,rfl,rfl,g9.of (s4 _ _ h3w),g9.of h4w,ae8 (rows0 H4) (rows0 H4),_,rfl,?_⟩;rw[decide_eq_true rfl];refine B6 ?_;have s04:=s2.trans (s3.trans s4);have up:=ee7.mp (all.up tp l1 m1);refine ⟨_,rfl,1,_,rfl,⟨by decide,by decide,by omega,by omega⟩,S8 (lo:=1) (n:=(((M6 p m:Nat):Int) - 1).toNat) (fun i ys σ H5=>∃v:Option V,σ=[v,some (.ref o)]/\ys=[]/\H5=H4) ⟨none,rfl,rfl,rfl⟩ ?_ ?_⟩
   · rintro i ys σ H5 hi ⟨v,rfl,rfl,rfl⟩;have ea:bs[i]? =some (bs[i]'(by omega)):=eb8 (by omega);have eb:bs[i+1]? =some (bs[i+1]'(by omega)):=eb8 (by omega);have ra:ts[i]? =some (ts[i]'(by omega)):=eb8 (by omega);have rb:ts[i+1]? =some (ts[i+1]'(by omega)):=eb8 (by omega);have lt:=up i (i+1) (by omega) (by omega) (by omega)
     have ix1:V7 (bs.map V.ref) ((1:Int)+(i:Int) - 1)=some (.ref (bs[i]'(by omega))):=by
       rw[show (1:Int)+(i:Int) - 1=(i:Int) by omega];exact C4 (j:=i) (by rw[ec1,ea];rfl)
     have ix2:V7 (bs.map V.ref) ((1:Int)+(i:Int))=some (.ref (bs[i+1]'(by omega))):=by
       rw[show (1:Int)+(i:Int)=((i+1:Nat):Int) by omega];exact C4 (j:=i+1) (by rw[ec1,eb];rfl)
     refine ⟨_,rfl,_,rfl,_,_,rfl,rfl,o,_,_,_,rfl,rfl,g9.of (s04 _ _ ho),ix1,_,rfl,_,rfl,o,_,_,_,rfl,rfl,g9.of (s04 _ _ ho),ix2,?_⟩;refine ⟨_,_,_,_,rfl,rfl,s04 _ _ (rows.2 i _ _ ea ra),s04 _ _ (rows.2 (i+1) _ _ eb rb),true,?_,?_⟩
     · rw[lt]
     · exact B6 ⟨_,rfl,rfl,rfl⟩
   rintro ys σ H5 ⟨v,rfl,rfl,rfl⟩ w3 hw3;have s5:e7 H5 (c9 H5 w3 (.lst [])):=e7.upd_new hw3;have h5w:(c9 H5 w3 (.lst [])) w3=some (.lst (([]:List Int).map V.int)):=c8;generalize (c9 H5 w3 (.lst []))=H6 at s5 h5w ⊢;refine ⟨ed7 _,fun w4 hw4=> ?_⟩;have s6:e7 H6 (c9 H6 w4 (.lst [])):=e7.upd_new hw4;have h6w:(c9 H6 w4 (.lst [])) w4=some (.lst (([]:List Int).map V.int)):=c8;generalize (c9 H6 w4 (.lst []))=H7 at s6 h6w ⊢;refine ⟨w3,w4,_,_,_,rfl,rfl,g9.of (s6 _ _ h5w),g9.of h6w,Q9 _ _ _ _ _,_,rfl,?_⟩;rw[decide_eq_true rfl];refine B6 ?_;have s07:=s04.trans (s5.trans s6);refine ⟨_,rfl,a,_,rfl,.inl (g9.of (s07 _ _ ta.1)),_,_,rfl,rfl,?_⟩
   by_cases c:6 < p.length
   · refine ⟨true,congrArg V.bl (decide_eq_true (by rw[eb7];omega)),O8 (q _ s07)⟩
   · refine ⟨false,congrArg V.bl (decide_eq_false (by rw[eb7];omega)),B6 ?_⟩;refine ⟨_,rfl,_,rfl,_,rfl,a,p,m,rfl,s07 _ _ ta.1,tp,by omega,m1,fun l as us H8 hl s8 h8 rows8 eu lu fr=> ?_⟩;rw[eu ts all] at rows8;refine ⟨o,l,_,_,_,rfl,rfl,g9.of ((s07.trans s8) _ _ ho),g9.of h8,ae8 (t6 rows fun b hb o e=>(s07.trans s8) _ _ e) rows8,?_⟩;rw[decide_eq_true rfl];exact q _ (s07.trans s8)
end
end My
namespace My
open PySem L2 Mth
section
variable {P:Program} {w:World} {K:PySem.W.Frag} {mg:Str->Option Value} {base:Heap} {q_TurnError q_NoTurn q_NoFit q_NoRounds q_NoNumber q_NoRoot q_TooMany q_NoKind q_NoText q_NoName q_NoRow:Addr}
theorem L4.keep {H H':Hp}{a:Addr}{p:List Int}(h:L4 H a p)(s:e7 H H'):L4 H' a p:=⟨s _ _ h.1,h.2⟩
theorem Kp.kbs {H H1 H2:Hp}{S:Addr->Prop}(hS:∀x,S x->H x=none)(k:Kp H H1)(b:∀x u,H1 x=some u->¬S x->H2 x=some u):Kp H H2:=by
 have ne:∀x u,H x=some u->¬S x:=fun x u e z=>by rw[hS x z] at e;cases e
 refine ⟨fun x u e n=>b _ _ (k.nd x u e n) (ne x u e),fun x es e=> ?_,fun x e=> ?_⟩
 · have nx:¬S x:=e.elim (fun e=>ne x _ e) fun ⟨o,e⟩=>ne x _ e
   rcases k.tab x es e with z|⟨o,z⟩
   · exact .inl (b _ _ z nx)
   · exact .inr ⟨o,b _ _ z nx⟩
 · by_cases c:S x
   · exact hS x c
   · refine k.fr x ?_
     cases z:H1 x with
     |none=>rfl
     |some u=>rw[b _ _ z c] at e;cases e
def av6 (ts:List (List Int))(n:Nat):List (List Int):=(ef4 n).map fun j=>ts.getD j []++[(j:Int)]
theorem db6 {ts:List (List Int)}{n j:Nat}(h:j < n):(av6 ts n)[j]? =some (ts.getD j []++[(j:Int)]):=by
 unfold av6;rw[ec1,eg8 h];rfl
theorem cw2 (ts:List (List Int))(n:Nat):av6 ts (n+1)=av6 ts n++[ts.getD n []++[(n:Int)]]:=by
 unfold av6;rw[el8,ec4];rfl
def ba0 (K:PySem.W.Frag):Sp:=fun vs H Q _=>∃(a:Addr) (p:List Int) (m:Nat),vs=[.ref a,.int (m:Int)]/\L4 H a p/\1<=m/\∀(H':Hp),Kp H H'->Q (.bl true) H'
theorem S3:m8 ["p","m","kept","many","found","due","k"] ["p","m"] (j6 an2):=⟨rfl,rfl,rfl,by decide+kernel,rfl,by decide+kernel,by decide+kernel⟩
theorem bo5:(["r"]:List Str).Nodup:=by decide+kernel
theorem ba1:(["k","due"]:List Str).Nodup:=by decide+kernel
theorem cc4 {f:Addr}{fd:FuncData}(F:E7 K "_law_right" "_law_right" an2 f fd)(B:Bl mg)(c_law_how_many:o5 P w K mg base "_law_how_many" 3 ["p","m"] aj7)(c_law_asked:o5 P w K mg base "_law_asked" 45 ["p","m"] bc2)(c_law_told_right:o5 P w K mg base "_law_told_right" 4 ["found","p","m","many"] bg9):o8 P w K mg base G2 46 f fd ["p","m"] (ba0 K):=by
 refine F.ok S3 (fun vs H Q E h=> ?_) (fun cdv A outer s H vs Q E hr h=> ?_)
 · obtain ⟨a,p,m,rfl,ta,m1,q⟩:=h;rfl
 · obtain ⟨a,p,m,rfl,ta,m1,q⟩:=h;have hr_law_how_many:n6 3 _:=hr.mono (by decide);have hr_law_asked:n6 45 _:=hr.mono (by decide);have hr_law_told_right:n6 4 _:=hr.mono (by decide);have hu:=Q3 hr;have hu2:_+1+1 < cLine:=ee5 (ep2 (by decide:2<=64) _) hr.units;refine ⟨_,@c7 _ _ _ _ _ (@i6 _ _ (2) _ _ _ _ S3.nd rfl (Or.inl rfl) (@al0 _ _ _ _ _ B.list (@c5 _ _ _ _ _ (pv 0) (@c6 _) (by rfl)) (by rfl) (by rfl)) (by rfl) (by trivial)) (@c7 _ _ _ _ _ (@i6 _ _ (3) _ _ _ _ S3.nd rfl (Or.inl rfl) (@j7 _ _ _ _ _ _ _ _ _ _ c_law_how_many hr_law_how_many (@c5 _ _ _ _ _ (pv 0) (@c5 _ _ _ _ _ (pv 1) (@c6 _) (by rfl)) (by rfl)) (by rfl) (by decide) (by rfl) (by rfl)) (by rfl) (by trivial)) (@c7 _ _ _ _ _ (@i6 _ _ (4) _ _ _ _ S3.nd rfl (Or.inl rfl) (@j7 _ _ _ _ _ _ _ _ _ _ c_law_asked hr_law_asked (@c5 _ _ _ _ _ (pv 0) (@c5 _ _ _ _ _ (pv 1) (@c6 _) (by rfl)) (by rfl)) (by rfl) (by decide) (by rfl) (by rfl)) (by rfl) (by trivial)) (@c7 _ _ _ _ _ (@B5 _ _ _ _ _ _ _ _ (@m7 _ _ _ _ _ _ _ _ (ae7 0 hu) (pv 0) (pv 2) (n0 _)) (@e8 _ _ _ (@j9 _ _ _ _ (@M9 _ _ _ _))) (@r6 _)) (@c7 _ _ _ _ _ (@B5 _ _ _ _ _ _ _ _ (@m7 _ _ _ _ _ _ _ _ ba4 (pv 3) (@g8 _ _ _ _) (n0 _)) (@e8 _ _ _ (@j9 _ _ _ _ (@ac6 _ _ _ _ _ _ _ _ (cv6 hu) (pv 4) (@aw3 _ _ _ _) (n0 _)))) (@r6 _)) (@c7 _ _ _ _ _ (@B5 _ _ _ _ _ _ _ _ (@N8 _ _ _ _ (@O6 _ _ _ (@j7 _ _ _ _ _ _ _ _ _ _ c_law_told_right hr_law_told_right (@c5 _ _ _ _ _ (pv 4) (@c5 _ _ _ _ _ (pv 0) (@c5 _ _ _ _ _ (pv 1) (@c5 _ _ _ _ _ (pv 3) (@c6 _) (by rfl)) (by rfl)) (by rfl)) (by rfl)) (by rfl) (by decide) (by rfl) (by rfl)) (by intro _;rfl))) (@e8 _ _ _ (@j9 _ _ _ _ (@M9 _ _ _ _))) (@r6 _)) (@c7 _ _ _ _ _ (@i6 _ _ (5) _ _ _ _ S3.nd rfl (Or.inr rfl) (@U6 _ _ _ _ _ _ _ _ _ _ _ (["r"]) (1) ([]) rfl .of (@E2 _ _ _ _ (pv 4)) (fun _ _ _ _ _=>@i8 _ _ (0) _ bo5 rfl (Or.inl rfl) (by trivial)) (fun _ _ _ _ _=>(@ar2 _)) (fun _ _ _ _ _=>(@ck0 _ _ _ _ _ K B.list (@c5 _ _ _ _ _ (pv 0) (@c6 _) (by rfl)) (by rfl) (by rfl) (by rfl))) (by intro _;rfl)) (by rfl) (by trivial)) (@c7 _ _ _ _ _ (@o9 _ _ _ _ _ _ _ _ PassesOwn.never rfl (@G5 _ _ _ _ _ _ (by rfl) B.range (@c5 _ _ _ _ _ (pv 3) (@c6 _) (by rfl)) (by rfl)) (@i8 _ _ (6) _ S3.nd rfl (Or.inl rfl) (by trivial)) (@e8 _ _ _ (@C3 _ _ _ _ (@C7 _ _ _ _ _ _ _ (@J2 _ _ _ _ _ _ _ B9 (pv 4) (pv 6) (fun _ _=>rfl)) (@c5 _ _ _ _ _ (pv 6) (@c6 _) (by rfl)) (by rfl) (by rfl) (by rfl) (by rfl) (by rfl)) (by rfl))) (by intro _;rfl)) (@c7 _ _ _ _ _ (@B5 _ _ _ _ _ _ _ _ (@m7 _ _ _ _ _ _ _ _ (ae7 1 hu2) (pv 4) (@U6 _ _ _ _ _ _ _ _ _ _ _ (["k","due"]) (1) ([5]) rfl .of (@G5 _ _ _ _ _ _ (by rfl) B.range (@c5 _ _ _ _ _ (pv 3) (@c6 _) (by rfl)) (by rfl)) (fun _ _ _ _ _=>@i8 _ _ (0) _ ba1 rfl (Or.inl rfl) (by trivial)) (fun _ _ _ _ _=>(@ar2 _)) (fun _ _ _ _ _=>(@i7 _ _ _ _ _ _ _ _ ae6 (@J2 _ _ _ _ _ _ (be1 K) B9 (pv 1) (pv 0) (fun _ _=>rfl)) (@o6 _ _ _ _ (@c5 _ _ _ _ _ (pv 0) (@c6 _) (by rfl))))) (by intro _;rfl)) (n0 _)) (@e8 _ _ _ (@j9 _ _ _ _ (@M9 _ _ _ _))) (@r6 _)) (@c7 _ _ _ _ _ (@C3 _ _ _ _ (@C7 _ _ _ _ _ _ _ (pv 4) (@c5 _ _ _ _ _ (@o6 _ _ _ _ (@c6 _)) (@c6 _) (by rfl)) (by rfl) (by rfl) (by rfl) (by rfl) (by rfl)) (by rfl)) (@e8 _ _ _ (@j9 _ _ _ _ (@ac6 _ _ _ _ _ _ _ _ (ao4 1 hu2) (@j7 _ _ _ _ _ _ _ _ _ _ c_law_asked hr_law_asked (@c5 _ _ _ _ _ (pv 0) (@c5 _ _ _ _ _ (pv 1) (@c6 _) (by rfl)) (by rfl)) (by rfl) (by decide) (by rfl) (by rfl)) (pv 5) (n0 _))))))))))))),?_⟩
   refine dq0 ?_;intros
   try dsimp only[y7,Cx.nox,Cx.wish]
   have tp:=ta.2.1;have l1:=ta.2.2;refine ⟨_,rfl,a,_,rfl,.inl (g9.of ta.1),fun ke hke=> ?_⟩;have s1:e7 H (c9 H ke (.lst (p.map V.int))):=e7.upd_new hke;have h1k:(c9 H ke (.lst (p.map V.int))) ke=some (.lst (p.map V.int)):=c8;generalize (c9 H ke (.lst (p.map V.int)))=H1 at s1 h1k ⊢;refine ⟨_,rfl,_,rfl,a,p,m,rfl,ta.keep s1,m1,fun H2 s2=> ?_⟩;have s02:=s1.trans s2;have h2k:=s2 _ _ h1k;have t2:L4 H2 a p:=ta.keep s02
   by_cases big:2000 < M6 p m
   · refine ⟨_,rfl,_,rfl,a,p,m,rfl,t2,m1,.inl ⟨big,fun H3 s3=> ?_⟩⟩;refine ⟨_,rfl,_,rfl,a,ke,_,_,_,rfl,rfl,g9.of (s3 _ _ t2.1),g9.of (s3 _ _ h2k),Q9 _ _ _ _ _,_,rfl,?_⟩;rw[decide_eq_true rfl];refine B6 ⟨_,rfl,_,_,rfl,rfl,_,rfl,?_⟩;rw[decide_eq_true (show (2000:Int) < ((M6 p m:Nat):Int) by omega)];exact O8 ⟨_,rfl,.inl ⟨rfl,q H3 (Kp.of (s02.trans s3))⟩⟩
   refine ⟨_,rfl,_,rfl,a,p,m,rfl,t2,m1,.inr ⟨by omega,fun o bs ts H3 ho h3o rows all bnd bfr ob kp=> ?_⟩⟩;have k03:Kp H H3:=(Kp.of s02).trans kp;have t3:L4 H3 a p:=⟨k03.lst ta.1,ta.2⟩;refine ⟨_,rfl,_,rfl,a,ke,_,_,_,rfl,rfl,g9.of t3.1,g9.of (kp.lst h2k),Q9 _ _ _ _ _,_,rfl,?_⟩;rw[decide_eq_true rfl];refine B6 ⟨_,rfl,_,_,rfl,rfl,_,rfl,?_⟩;rw[decide_eq_false (show ¬(2000:Int) < ((M6 p m:Nat):Int) by omega)];refine B6 ⟨_,rfl,_,rfl,_,rfl,_,rfl,o,a,p,m,bs,ts,rfl,h3o,rows,all,t3,m1,by omega,fun H4 s4=>⟨true,rfl,B6 ?_⟩⟩;have lts:=all.len;have lbs:bs.length=ts.length:=rows.1;have h4o:=s4 _ _ h3o
   have rows4:m9 H4 bs ts:=t6 rows fun b hb o e=>s4 _ _ e
   refine ⟨_,rfl,o,rfl,⟨_,g9.of h4o⟩,Z9 (K:=K) (a:=o) (xs:=bs.map V.ref) (fun i ys σ H5=>∃(v:Option V) (ds:List Addr),σ=[v]/\ys=ds.map V.ref/\m9 H5 ds (ts.take i)/\e7 H4 H5/\∀d∈ds,H4 d=none)
     ⟨none,[],rfl,rfl,⟨rfl,fun j b r h=>by cases h⟩,e7.refl _,(fun d hd=>by cases hd)⟩ (fun i ys σ H5 _ ⟨_,_,_,_,_,s,_⟩=>g9.of (s _ _ h4o)) ?_ ?_⟩
   · rintro i x ys σ H5 hi ⟨v,ds,rfl,rfl,rowsD,s5,fr⟩
     obtain ⟨b,hb,rfl⟩:∃b,bs[i]? =some b/\x=V.ref b:=by
       rw[ec1] at hi
       cases e:bs[i]? with
       |none=>rw[e] at hi;cases hi
       |some a=>rw[e] at hi;exact ⟨a,rfl,(Option.some.inj hi).symm⟩
     have il:i < ts.length:=by rw[<-rows.1];exact (eb9.mp hb).1
     obtain ⟨r,hr⟩:∃r,ts[i]? =some r:=⟨_,eb8 il⟩;refine ⟨_,rfl,b,_,rfl,.inl (g9.of (s5 _ _ (rows4.2 i b r hb hr))),fun l hl=> ?_⟩;have s6:e7 H5 (c9 H5 l (.lst (r.map V.int))):=e7.upd_new hl;have h6l:(c9 H5 l (.lst (r.map V.int))) l=some (.lst (r.map V.int)):=c8;generalize (c9 H5 l (.lst (r.map V.int)))=H6 at s6 h6l ⊢;refine ⟨az9 (by rw[eb7,rowsD.1,ee1];omega),_,ds++[l],rfl,by rw[ec4];rfl,?_,s5.trans s6,fun d hd=> ?_⟩
     · rw[j8 hr];exact O2 (t6 rowsD fun b hb o e=>s6 _ _ e) h6l
     · rcases ed0.mp hd with y|y
       · exact fr d y
       · rw[ec9.mp y];exact s5.free hl
   rintro ys σ H5 ⟨v,ds,rfl,rfl,rowsD,s5,frD⟩ D hD;rw[eb7,rows.1,ef3] at rowsD;have s6:e7 H5 (c9 H5 D (.lst (ds.map V.ref))):=e7.upd_new hD;have h6D:(c9 H5 D (.lst (ds.map V.ref))) D=some (.lst (ds.map V.ref)):=c8
   have rows6D:m9 (c9 H5 D (.lst (ds.map V.ref))) ds ts:=t6 rowsD fun b hb o e=>s6 _ _ e
   generalize (c9 H5 D (.lst (ds.map V.ref)))=H6 at s6 h6D rows6D ⊢;have s46:=s5.trans s6;have h6o:=s46 _ _ h4o
   have rows6:m9 H6 bs ts:=t6 rows4 fun b hb o e=>s46 _ _ e
   have bin:∀b∈bs,∃u,H4 b=some u:=fun b hb=>by
     obtain ⟨r,hr⟩:=W5 rows4 hb;exact ⟨_,hr⟩
   have nD:D∉bs:=fun z=>by obtain ⟨u,e⟩:=bin D z;rw[s5 _ _ e] at hD;cases hD
   have nds:∀d∈ds,d∉bs:=fun d hd z=>by obtain ⟨u,e⟩:=bin d z;rw[frD d hd] at e;cases e
   have ndo:∀d∈ds,d≠o:=fun d hd z=>by have:=frD d hd;rw[z,h4o] at this;cases this
   have nDo:D≠o:=fun z=>by rw[z,s5 _ _ h4o] at hD;cases hD
   refine ⟨_,rfl,_,rfl,by omega,by omega,C6 (lo:=0) (n:=(((M6 p m:Nat):Int)).toNat) (fun i σ H7=>∃v6:Option V,σ=[some (.ref a),some (.int (m:Int)),some (.ref ke),some (.int ((M6 p m:Nat):Int)),some (.ref o),some (.ref D),v6]/\(∀x u,H6 x=some u->x∉bs->H7 x=some u)/\∀j b r,bs[j]? =some b->ts[j]? =some r->H7 b=some (.lst ((if j < i then r++[(j:Int)] else r).map V.int)))
     ⟨none,rfl,fun x u e _=>e,fun j b r e1 e2=>by rw[if_neg (by omega)];exact rows6.2 j b r e1 e2⟩ ?_ ?_⟩
   · rintro i σ H7 hi ⟨v6,rfl,kp7,rows7⟩
     have hin:i < M6 p m:=by omega
     have eb:bs[i]? =some (bs[i]'(by omega)):=eb8 (by omega);have er:ts[i]? =some (ts[i]'(by omega)):=eb8 (by omega);generalize bs[i]'(by omega)=bi at eb;generalize ts[i]'(by omega)=r at er;have lr:p.length=r.length:=(all.root tp l1 m1 r (ec8 er)).2.1;have bm:bi∈bs:=ec8 eb
     have ix:V7 (bs.map V.ref) ((0:Int)+(i:Int))=some (.ref bi):=by
       rw[show (0:Int)+(i:Int)=(i:Int) by omega];exact C4 (j:=i) (by rw[ec1,eb];rfl)
     have h7o:=kp7 _ _ h6o ob;have hbi:=rows7 i bi r eb er;rw[if_neg (em2 i)] at hbi;refine ⟨_,rfl,_,rfl,o,_,_,_,rfl,rfl,g9.of h7o,ix,.inl ⟨rfl,_,g9.of hbi⟩,_,rfl,bi,_,_,rfl,rfl,hbi,t5 (by rw[eb7];omega),?_⟩;refine ⟨_,rfl,fun x u e n=> ?_,fun j b r' e1 e2=> ?_⟩
     · rw[g6 (fun z=>n (by rw[z];exact bm))];exact kp7 x u e n
     · by_cases c:j=i
       · subst c;rw[eb] at e1;rw[er] at e2;cases e1;cases e2;rw[c8,if_pos (Nat.lt_succ_self _),ec4];show some (HO.lst (r.map V.int++[V.int (0+(j:Int))]))=some (HO.lst (r.map V.int++[V.int (j:Int)]));rw[show (0:Int)+(j:Int)=(j:Int) by omega]
       · have nb:b≠bi:=fun z=>by
           obtain ⟨a1,a2⟩:=eb9.mp e1;obtain ⟨b1,b2⟩:=eb9.mp eb;have nd:=ee7.mp (ed5.mp bnd)
           rcases Nat.lt_trichotomy j i with y|y|y
           · exact nd j i a1 b1 y (by rw[a2,b2,z])
           · exact c y
           · exact nd i j b1 a1 y (by rw[a2,b2,z])
         have h:=rows7 j b r' e1 e2;rw[g6 nb,h]
         by_cases c2:j < i
         · rw[if_pos c2,if_pos (by omega)]
         · rw[if_neg c2,if_neg (by omega)]
   rintro σ H7 ⟨v6,rfl,kp7,rows7⟩
   have rowsX:m9 H7 bs (av6 ts (M6 p m)):=by
     refine ⟨by unfold av6;rw[eb7,ee9];omega,fun j b r e1 e2=> ?_⟩
     have jl:j < M6 p m:=by have:=(eb9.mp e1).1;omega
     rw[db6 jl] at e2;cases e2;have et:ts[j]? =some (ts[j]'(by omega)):=eb8 (by omega);have h:=rows7 j b _ e1 et;rw[if_pos (by omega)] at h;rw[h,ec3,et];rfl
   have h7o:=kp7 _ _ h6o ob;have h7D:=kp7 _ _ h6D nD;have rows7D:m9 H7 ds ts:=⟨rows6D.1,fun j b r e1 e2=>kp7 _ _ (rows6D.2 j b r e1 e2) (nds b (ec8 e1))⟩;refine ⟨_,rfl,_,rfl,_,rfl,by omega,by omega,?_⟩;have lds:ds.length=ts.length:=rows6D.1
   refine S8 (lo:=0) (n:=(((M6 p m:Nat):Int)).toNat) (fun i ys σ H8=>∃(v:Option V) (es:List Addr),σ=[v,some (.ref D)]/\ys=es.map V.ref/\m9 H8 es (av6 ts i)/\e7 H7 H8)
     ⟨none,[],rfl,rfl,⟨rfl,fun j b r h=>by cases h⟩,e7.refl _⟩ ?_ ?_
   · rintro i ys σ H8 hi ⟨v,es,rfl,rfl,rowsE,s8⟩
     have hin:i < M6 p m:=by omega
     have eb:ds[i]? =some (ds[i]'(by omega)):=eb8 (by omega);have er:ts[i]? =some (ts[i]'(by omega)):=eb8 (by omega);generalize ds[i]'(by omega)=di at eb;generalize ts[i]'(by omega)=r at er;have lr:p.length=r.length:=(all.root tp l1 m1 r (ec8 er)).2.1
     have e0:(0:Int)+(i:Int)=(i:Int):=by omega
     rw[e0];have ix:V7 (ds.map V.ref) (i:Int)=some (.ref di):=C4 (j:=i) (by rw[ec1,eb];rfl);have h8d:=s8 _ _ (rows7D.2 i di r eb er);refine ⟨_,rfl,_,rfl,D,_,_,_,rfl,rfl,g9.of (s8 _ _ h7D),ix,_,rfl,(show 1<=sizeLine by decide),fun e he=> ?_⟩;have s9:e7 H8 (c9 H8 e (.lst [V.int (i:Int)])):=e7.upd_new he;have h9e:(c9 H8 e (.lst [V.int (i:Int)])) e=some (.lst [V.int (i:Int)]):=c8;generalize (c9 H8 e (.lst [V.int (i:Int)]))=H9 at s9 h9e ⊢;refine ⟨di,e,_,_,rfl,rfl,s9 _ _ h8d,h9e,ei1 (t5 (by rw[eb7];simp only[eq4];omega)),fun f hf=> ?_⟩;rw[show r.map V.int++[V.int (i:Int)]=(r++[(i:Int)]).map V.int by rw[ec4];rfl];have s10:e7 H9 (c9 H9 f (.lst ((r++[(i:Int)]).map V.int))):=e7.upd_new hf;have h10f:(c9 H9 f (.lst ((r++[(i:Int)]).map V.int))) f=some (.lst ((r++[(i:Int)]).map V.int)):=c8;generalize (c9 H9 f (.lst ((r++[(i:Int)]).map V.int)))=H10 at s10 h10f ⊢;have s810:=s9.trans s10;refine ⟨az9 (by rw[eb7,rowsE.1];unfold av6;rw[eb7,ee9];omega),_,es++[f],rfl,by rw[ec4];rfl,?_,s8.trans s810⟩;rw[cw2,ec3,er];exact O2 (t6 rowsE fun b hb o e=>s810 _ _ e) h10f
   rintro ys σ H8 ⟨v,es,rfl,rfl,rowsE,s8⟩ W hW;rw[eg3] at rowsE;have s9:e7 H8 (c9 H8 W (.lst (es.map V.ref))):=e7.upd_new hW;have h9W:(c9 H8 W (.lst (es.map V.ref))) W=some (.lst (es.map V.ref)):=c8;generalize (c9 H8 W (.lst (es.map V.ref)))=H9 at s9 h9W ⊢;have s79:=s8.trans s9;refine ⟨o,W,_,_,_,rfl,rfl,g9.of (s79 _ _ h7o),g9.of h9W,ae8 (t6 rowsX fun b hb o e=>s79 _ _ e) (t6 rowsE fun b hb o e=>s9 _ _ e),_,rfl,?_⟩;rw[decide_eq_true rfl];refine B6 ?_;refine ⟨_,rfl,.inl ⟨rfl,_,g9.of (s79 _ _ h7o)⟩,ed7 _,fun e he=> ?_⟩;have s10:e7 H9 (c9 H9 e (.lst [])):=e7.upd_new he;generalize (c9 H9 e (.lst []))=H10 at s10 ⊢;have s710:=s79.trans s10;have h10o:=s710 _ _ h7o;refine ⟨o,_,_,rfl,rfl,h10o,az9 (by rw[eb7];omega),?_⟩;have kb11:j5 o H10 (c9 H10 o (.lst (bs.map V.ref++[V.ref e]))):=j5.upd;generalize (c9 H10 o (.lst (bs.map V.ref++[V.ref e])))=H11 at kb11 ⊢;have h11D:=kb11 _ _ (s710 _ _ h7D) nDo;have rows11D:m9 H11 ds ts:=⟨rows7D.1,fun j b r e1 e2=>kb11 _ _ (s710 _ _ (rows7D.2 j b r e1 e2)) (ndo b (ec8 e1))⟩;have k06:Kp H H6:=k03.trans (Kp.of (s4.trans s46))
   have b0:∀b∈bs,H b=none:=fun b hb=>s02.free (bfr b hb)
   have o0:H o=none:=s02.free ho;have k07:Kp H H7:=k06.kbs (S:=fun x=>x∈bs) b0 kp7;have k011:Kp H H11:=(k07.trans (Kp.of s710)).kbs (S:=fun x=>x=o) (fun x hx=>by rw[hx];exact o0) kb11;refine ⟨_,rfl,_,rfl,a,p,m,rfl,⟨k011.lst ta.1,ta.2⟩,m1,.inr ⟨by omega,fun o2 bs2 us H12 ho2 h12o rows2 all2 bnd2 bfr2 ob2 kp2=> ?_⟩⟩;have eu:=all2.uniq all tp l1 m1;refine ⟨_,rfl,o2,D,_,_,_,rfl,rfl,g9.of h12o,g9.of (kp2.lst h11D),ae8 rows2 (kp2.rows rows11D),?_⟩;rw[decide_eq_true eu];exact q H12 (k011.trans kp2)
end
end My
namespace My
open PySem L2 Mth
section
variable {P:Program} {w:World} {K:PySem.W.Frag} {mg:Str->Option Value} {base:Heap} {q_TurnError q_NoTurn q_NoFit q_NoRounds q_NoNumber q_NoRoot q_TooMany q_NoKind q_NoText q_NoName q_NoRow:Addr}
theorem dv3 {R:St->Hp->Prop}{σ:St}{H:Hp}{A:Prop}{b:Bool}(G:St->Hp->Prop)(rest:∀σ' H',G σ' H'->R σ' H')(hb:G σ H)(ha:(∀σ' H',G σ' H'->R σ' H')->A):if b=true then A else R σ H:=by
 cases b with
 |true=>exact ha rest
 |false=>exact rest σ H hb
theorem Kp.seq {H H':Hp}(k:Kp H H'){a:Addr}{xs:List V}(h:g9 K H a xs):g9 K H' a xs:=by
 rcases h with (e|⟨o,e⟩)|h
 · exact .inl (.inl (k.lst e))
 · exact .inl (.inr ⟨o,k.nd _ _ e (fun kvs z=>by cases z)⟩)
 · exact .inr h
def S4 (H:Hp)(g l:Addr):Hp:=fun a=>if a=g\/a=l then none else H a
theorem dj7 {g:Addr}{H H':Hp}(k:j5 g H H'):e7 (S4 H g g) H':=fun b u e=>by
 unfold S4 at e
 by_cases c:b=g
 · rw[if_pos (.inl c)] at e;cases e
 · rw[if_neg (fun z=>c (z.elim id id))] at e;exact k _ _ e c
theorem ah5 {g b:Addr}{H:Hp}{u:HO}(e:H b=some u)(n:b≠g):S4 H g g b=some u:=by
 unfold S4;rw[if_neg (fun z=>n (z.elim id id))];exact e
theorem Kp.kb {H H1 H2:Hp}{g:Addr}(hg:H g=none)(k:Kp H H1)(b:j5 g H1 H2):Kp H H2:=by
 have ne:∀x u,H x=some u->x≠g:=fun x u e z=>by rw[z,hg] at e;cases e
 refine ⟨fun x u e n=>b _ _ (k.nd x u e n) (ne x u e),fun x es e=> ?_,fun x e=> ?_⟩
 · have nx:x≠g:=e.elim (fun e=>ne x _ e) fun ⟨o,e⟩=>ne x _ e
   rcases k.tab x es e with z|⟨o,z⟩
   · exact .inl (b _ _ z nx)
   · exact .inr ⟨o,b _ _ z nx⟩
 · by_cases c:x=g
   · rw[c];exact hg
   · refine k.fr x ?_
     cases z:H1 x with
     |none=>rfl
     |some u=>rw[b _ _ z c] at e;cases e
theorem Kp.hol2 {H H1:Hp}{g:Addr}(k:Kp H H1):Kp (S4 H g g) (S4 H1 g g):=by
 have ne:∀{H:Hp} {x u},S4 H g g x=some u->x≠g/\H x=some u:=fun {H x u} e=>by
   unfold S4 at e
   by_cases c:x=g
   · rw[if_pos (.inl c)] at e;cases e
   · rw[if_neg (fun z=>c (z.elim id id))] at e;exact ⟨c,e⟩
 refine ⟨fun x u e n=>ah5 (k.nd x u (ne e).2 n) (ne e).1,fun x es e=> ?_,fun x e=> ?_⟩
 · rcases e with e|⟨o,e⟩
   · rcases k.tab x es (.inl (ne e).2) with z|⟨o,z⟩
     · exact .inl (ah5 z (ne e).1)
     · exact .inr ⟨o,ah5 z (ne e).1⟩
   · rcases k.tab x es (.inr ⟨o,(ne e).2⟩) with z|⟨o,z⟩
     · exact .inl (ah5 z (ne e).1)
     · exact .inr ⟨o,ah5 z (ne e).1⟩
 · unfold S4 at e ⊢
   by_cases c:x=g\/x=g
   · rw[if_pos c]
   · rw[if_neg c] at e ⊢;exact k.fr x e
theorem cw3 (H:Hp)(g:Addr):S4 H g g g=none:=by
 unfold S4;rw[if_pos (.inl rfl)]
theorem Kp.into (H:Hp)(g:Addr):Kp (S4 H g g) H:=Kp.of (dj7 ((e7.refl H).but g))
theorem aq3 {H:Hp}{a b:Addr}(h:B7 H a)(n:H b=none):b≠a:=fun z=>by obtain ⟨o,e⟩:=h.some;rw[<-z,n] at e;cases e
theorem cc5 {H:Hp}{a b:Addr}{o:HO}(h:B7 H a)(n:a≠b):B7 (L2.c9 H b o) a:=let ⟨ds,e,r⟩:=h;⟨ds,by rw[g6 n];exact e,r⟩
theorem bs4:∀(xs:List Int) (k:Nat),(xs.map V.int).eraseIdx k=(xs.eraseIdx k).map V.int
 |[],k=>rfl
 |x::xs,0=>rfl
 |x::xs,k+1=>by
  show V.int x::(xs.map V.int).eraseIdx k=V.int x::(xs.eraseIdx k).map V.int;rw[bs4 xs k]
def cm1:Sp:=fun vs H Q _=>∃(g:Addr) (more:Nat),vs=[.ref g,.int (more:Int)]/\B7 H g/\more<=1/\∀H',Kp (S4 H g g) H'->B7 H' g->Q (.bl true) H'
theorem G7:m8 ["deck","more","left","found","l","one","k","told"] ["deck","more"] (j6 W4):=⟨rfl,rfl,rfl,by decide+kernel,rfl,by decide+kernel,by decide+kernel⟩
theorem aa5:(["k","left","deck"]:List Str).Nodup:=by decide+kernel
theorem af6:(["r","found"]:List Str).Nodup:=by decide+kernel
theorem ag3:(["k","told"]:List Str).Nodup:=by decide+kernel
theorem aw2 {f:Addr}{fd:FuncData}(F:E7 K "_law_two_thousand" "_law_two_thousand" W4 f fd)(B:Bl mg)(c_law_next:o5 P w K mg base "_law_next" 1 ["deck"] ap6)(c_law_asked:o5 P w K mg base "_law_asked" 45 ["p","m"] bc2)(c_law_is_turn:o5 P w K mg base "_law_is_turn" 1 ["found","many"] am0)(c_law_power:o5 P w K mg base "_law_power" 2 ["p","m"] ah3):o8 P w K mg base G2 46 f fd ["deck","more"] cm1:=by
 refine F.ok G7 (fun vs H Q E h=> ?_) (fun cdv A outer s H vs Q E hr h=> ?_)
 · obtain ⟨g,more,rfl,D,hm,q⟩:=h;rfl
 · obtain ⟨g,more,rfl,D,hm,q⟩:=h;have hr_law_next:n6 1 _:=hr.mono (by decide);have hr_law_asked:n6 45 _:=hr.mono (by decide);have hr_law_is_turn:n6 1 _:=hr.mono (by decide);have hr_law_power:n6 2 _:=hr.mono (by decide);have hu:=Q3 hr;have hu2:_+1+1 < cLine:=ee5 (ep2 (by decide:2<=64) _) hr.units;refine ⟨_,@c7 _ _ _ _ _ (@i6 _ _ (2) _ _ _ _ G7.nd rfl (Or.inr rfl) (@ar5 _ _ _ _ _ _ _ rfl B.list B.range (@c5 _ _ _ _ _ (@i7 _ _ _ _ _ _ _ _ E3 (@g8 _ _ _ _) (pv 1)) (@c6 _) (by rfl)) (by rfl) (by rfl) (by rfl) (by rfl)) (by rfl) (by trivial)) (@c7 _ _ _ _ _ (@i6 _ _ (3) _ _ _ _ G7.nd rfl (Or.inr rfl) (@i7 _ _ _ _ _ _ _ _ aw7 (@o6 _ _ _ _ (@c5 _ _ _ _ _ (@g8 _ _ _ _) (@c6 _) (by rfl))) (@A0 _ _ _ _ _ B.len (@c5 _ _ _ _ _ (pv 2) (@c6 _) (by rfl)) (by rfl) (by rfl))) (by rfl) (by trivial)) (@c7 _ _ _ _ _ (@o9 _ _ _ _ _ _ _ _ PassesOwn.never rfl (@E2 _ _ _ _ (@i7 _ _ _ _ _ _ _ _ ae6 (@i7 _ _ _ _ _ _ _ _ aw7 (@o6 _ _ _ _ (@c5 _ _ _ _ _ (@g8 _ _ _ _) (@c6 _) (by rfl))) (@i7 _ _ _ _ _ _ _ _ E3 (@g8 _ _ _ _) (pv 1))) (@bw7 _ _ _ [3,3,3,9,9,2,2] rfl))) (@i8 _ _ (4) _ G7.nd rfl (Or.inl rfl) (by trivial)) (@c7 _ _ _ _ _ (@bl2 _ (5) _ _ _ _ _ _ _ _ _ _ _ _ _ (["k","left","deck"]) (1) ([2,0]) G7.nd rfl (Or.inl rfl) rfl .of (@G5 _ _ _ _ _ _ (by rfl) B.range (@c5 _ _ _ _ _ (pv 4) (@c6 _) (by rfl)) (by rfl)) (fun _ _ _ _ _=>@i8 _ _ (0) _ aa5 rfl (Or.inl rfl) (by trivial)) (fun _ _ _ _ _=>(@ar2 _)) (fun _ _ _ _ _=>(@bq9 _ K _ _ _ _ _ _ (pv 1) (@c5 _ _ _ _ _ (@i7 _ _ _ _ _ _ _ _ E4 (@j7 _ _ _ _ _ _ _ _ _ _ c_law_next hr_law_next (@c5 _ _ _ _ _ (pv 2) (@c6 _) (by rfl)) (by rfl) (by decide) (by rfl) (by rfl)) (@be2 _ _ _ _ _ K (by exact B.len) (@c5 _ _ _ _ _ (pv 1) (@c6 _) (by rfl)) (by rfl) (by rfl) (by rfl))) (@c6 _) (by rfl)) (by rfl) (by rfl) (by rfl) (by rfl) (by rfl) (by rfl))) (by rfl) (by intro _;rfl) (by trivial)) (@e8 _ _ _ (@o9 _ _ _ _ _ _ _ _ PassesOwn.never rfl (@G5 _ _ _ _ _ _ (by rfl) B.range (@c5 _ _ _ _ _ (pv 4) (@c6 _) (by rfl)) (by rfl)) (@i8 _ _ (6) _ G7.nd rfl (Or.inl rfl) (by trivial)) (@e8 _ _ _ (@ah6 _ _ _ _ _ _ (@J2 _ _ _ _ _ _ _ B9 (pv 5) (pv 6) (fun _ _=>rfl)) (@an7 _ _ _ _ _ _ _ (pv 3) (@J2 _ _ _ _ _ _ _ B9 (pv 5) (@i7 _ _ _ _ _ _ _ _ V5 (pv 6) (@g8 _ _ _ _)) (fun _ _=>rfl)) ac8 (by intro _;rfl)) (by rfl) (by rfl) (by rfl))) (by intro _;rfl)))) (by intro _;rfl)) (@c7 _ _ _ _ _ (@i6 _ _ (7) _ _ _ _ G7.nd rfl (Or.inr rfl) (@j7 _ _ _ _ _ _ _ _ _ _ c_law_asked hr_law_asked (@c5 _ _ _ _ _ (pv 3) (@c5 _ _ _ _ _ (@g8 _ _ _ _) (@c6 _) (by rfl)) (by rfl)) (by rfl) (by decide) (by rfl) (by rfl)) (by rfl) (by trivial)) (@c7 _ _ _ _ _ (@B5 _ _ _ _ _ _ _ _ (@m7 _ _ _ _ _ _ _ _ V1 (pv 1) (@g8 _ _ _ _) (n0 _)) (@e8 _ _ _ (@j9 _ _ _ _ (@ac6 _ _ _ _ _ _ _ _ (cv6 hu) (pv 7) (@aw3 _ _ _ _) (n0 _)))) (@r6 _)) (@c7 _ _ _ _ _ (@B5 _ _ _ _ _ _ _ _ (@aa8 _ _ _ _ _ _ _ (@N8 _ _ _ _ (@O6 _ _ _ (@ai3 _ _ _ _ _ _ B.isi (@c5 _ _ _ _ _ (pv 7) (@c5 _ _ _ _ _ (@ak9 _ _ B.list (by rfl)) (@c6 _) (by rfl)) (by rfl)) (by rfl) (by rfl) (by rfl)) (by intro _;rfl))) (@aa7 _ _ _ _ (@m7 _ _ _ _ _ _ _ _ bh1 (@A0 _ _ _ _ _ B.len (@c5 _ _ _ _ _ (pv 7) (@c6 _) (by rfl)) (by rfl) (by rfl)) (@g8 _ _ _ _) (n0 _)))).pt (@e8 _ _ _ (@j9 _ _ _ _ (@M9 _ _ _ _))) (@r6 _)) (@c7 _ _ _ _ _ (@B5 _ _ _ _ _ _ _ _ (@m7 _ _ _ _ _ _ _ _ (ae7 1 hu2) (@U6 _ _ _ _ _ _ _ _ _ _ _ (["r","found"]) (1) ([3]) rfl .of (@E2 _ _ _ _ (db3 K (pv 7) (@ac7 _ _ _ (@g8 _ _ _ _)))) (fun _ _ _ _ _=>@i8 _ _ (0) _ af6 rfl (Or.inl rfl) (by trivial)) (fun _ _ _ _ _=>@S7 _ _ _ (@aa8 _ _ _ _ _ _ _ (@N8 _ _ _ _ (@O6 _ _ _ (@j7 _ _ _ _ _ _ _ _ _ _ c_law_is_turn hr_law_is_turn (@c5 _ _ _ _ _ (pv 0) (@c5 _ _ _ _ _ (@g8 _ _ _ _) (@c6 _) (by rfl)) (by rfl)) (by rfl) (by decide) (by rfl) (by rfl)) (by intro _;rfl))) (@aa7 _ _ _ _ (@m7 _ _ _ _ _ _ _ _ (cf7 K 0 hu) (@j7 _ _ _ _ _ _ _ _ _ _ c_law_power hr_law_power (@c5 _ _ _ _ _ (pv 0) (@c5 _ _ _ _ _ (@g8 _ _ _ _) (@c6 _) (by rfl)) (by rfl)) (by rfl) (by decide) (by rfl) (by rfl)) (pv 1) (n0 _)))).pt) (fun _ _ _ _ _=>(pv 0)) (by intro _;rfl)) (@o6 _ _ _ _ (@c6 _)) (n0 _)) (@e8 _ _ _ (@j9 _ _ _ _ (@M9 _ _ _ _))) (@r6 _)) (@e8 _ _ _ (@j9 _ _ _ _ (@ac6 _ _ _ _ _ _ _ _ (ao4 0 hu) (@U6 _ _ _ _ _ _ _ _ _ _ _ (["k","told"]) (1) ([7]) rfl .of (@O1 _ _ _ _ _ _ _ (by rfl) B.range (@c5 _ _ _ _ _ (@g8 _ _ _ _) (@c5 _ _ _ _ _ (@g8 _ _ _ _) (@c6 _) (by rfl)) (by rfl)) (by rfl) (by rfl)) (fun _ _ _ _ _=>@i8 _ _ (0) _ ag3 rfl (Or.inl rfl) (by trivial)) (fun _ _ _ _ _=>@S7 _ _ _ (@N8 _ _ _ _ (@m7 _ _ _ _ _ _ _ _ (cv7 (Nat.lt_of_succ_lt hu)) (@J2 _ _ _ _ _ _ (be1 K) B9 (pv 1) (@i7 _ _ _ _ _ _ _ _ V5 (pv 0) (@g8 _ _ _ _)) (fun _ _=>rfl)) (@J2 _ _ _ _ _ _ (be1 K) B9 (pv 1) (pv 0) (fun _ _=>rfl)) (by with_unfolding_all rfl)))) (fun _ _ _ _ _=>(pv 0)) (by intro _;rfl)) (@o6 _ _ _ _ (@c6 _)) (n0 _)))))))))),?_⟩
   refine du5 ?_;intros
   try dsimp only[y7,Cx.nox,Cx.wish]
   have nb:35+more<=40:=by omega
   obtain ⟨n,hn⟩:∃n,n=35+more:=⟨_,rfl⟩;refine ⟨_,rfl,_,_,rfl,rfl,(n:Int),by rw[hn];exact congrArg (fun z=>[V.int z]) (by omega),fun r hr=> ?_⟩;have s1:e7 H (c9 H r (.rng 0 (n:Int))):=e7.upd_new hr;have h1r:(c9 H r (.rng 0 (n:Int))) r=some (.rng 0 (n:Int)):=c8;generalize (c9 H r (.rng 0 (n:Int)))=H1 at s1 h1r ⊢;refine ⟨r,0,(n:Int),rfl,h1r,⟨by decide,by decide,by omega,by omega⟩,by omega,fun lf hlf=> ?_⟩;rw[show ((n:Int) - 0).toNat=n by omega];have s2:e7 H1 (c9 H1 lf (.lst ((L2.Y0 0 n).map V.int))):=e7.upd_new hlf;have h2l:(c9 H1 lf (.lst ((L2.Y0 0 n).map V.int))) lf=some (.lst ((L2.Y0 0 n).map V.int)):=c8;generalize (c9 H1 lf (.lst ((L2.Y0 0 n).map V.int)))=H2 at s2 h2l ⊢;have s02:=s1.trans s2;have nlg:lf≠g:=aq3 (D.same s1) hlf;refine ⟨(by show 1<=sizeLine;decide),fun z0 hz0=> ?_⟩;have s3:e7 H2 (c9 H2 z0 (.lst [.int 0])):=e7.upd_new hz0;have h3z:(c9 H2 z0 (.lst [.int 0])) z0=some (.lst [.int 0]):=c8;generalize (c9 H2 z0 (.lst [.int 0]))=H3 at s3 h3z ⊢
   have ln:((L2.Y0 0 n).map V.int).length=n:=by rw[eb7,J9]
   refine ⟨_,rfl,lf,_,rfl,.inl (g9.of (s3 _ _ h2l)),z0,_,_,rfl,rfl,h3z,by rw[ln];omega,by rw[ln];omega,by rw[ln];show 1*_<=_;rw[sizeLine_eq];omega,fun fo hfo=> ?_⟩
   have erep:(ed6 ((((L2.Y0 0 n).map V.int).length:Nat):Int).toNat [V.int 0]).flatten=(ed6 n (0:Int)).map V.int:=by
     rw[ln,show ((n:Int)).toNat=n by omega];exact ar7 _
   rw[erep];have s4:e7 H3 (c9 H3 fo (.lst ((ed6 n (0:Int)).map V.int))):=e7.upd_new hfo;have h4f:(c9 H3 fo (.lst ((ed6 n (0:Int)).map V.int))) fo=some (.lst ((ed6 n (0:Int)).map V.int)):=c8;generalize (c9 H3 fo (.lst ((ed6 n (0:Int)).map V.int)))=H4 at s4 h4f ⊢;have s34:=s3.trans s4;have s04:=s02.trans s34;have h4l:=s34 _ _ h2l;have nfg:fo≠g:=aq3 ((D.same s02).same s3) hfo
   have nfl:fo≠lf:=fun z=>by rw[z,s3 _ _ h2l] at hfo;cases hfo
   have D4:=D.same s04;refine ⟨(by show 1<=sizeLine;decide),fun o1 ho1=> ?_⟩;have s5:e7 H4 (c9 H4 o1 (.lst [.int 1])):=e7.upd_new ho1;have h5o:(c9 H4 o1 (.lst [.int 1])) o1=some (.lst [.int 1]):=c8;generalize (c9 H4 o1 (.lst [.int 1]))=H5 at s5 h5o ⊢;refine ⟨_,rfl,_,_,rfl,rfl,o1,((4+more:Nat):Int),_,rfl,?_,h5o,by omega,by omega,by rw[show (((4+more:Nat):Int)).toNat=4+more by omega];show 1*_<=_;rw[sizeLine_eq];omega,fun o2 ho2=> ?_⟩
   · exact congrArg V.int (by omega)
   have s6:e7 H5 (c9 H5 o2 (.lst (ed6 (((4+more:Nat):Int)).toNat [V.int 1]).flatten)):=e7.upd_new ho2;have h6o:(c9 H5 o2 (.lst (ed6 (((4+more:Nat):Int)).toNat [V.int 1]).flatten)) o2=some (.lst (ed6 (((4+more:Nat):Int)).toNat [V.int 1]).flatten):=c8;generalize (c9 H5 o2 (.lst (ed6 (((4+more:Nat):Int)).toNat [V.int 1]).flatten))=H6 at s6 h6o ⊢;refine ⟨(by show 7<=sizeLine;decide),fun o3 ho3=> ?_⟩;have s7:e7 H6 (c9 H6 o3 (.lst (([3,3,3,9,9,2,2]:List Int).map V.int))):=e7.upd_new ho3;have h7o:(c9 H6 o3 (.lst (([3,3,3,9,9,2,2]:List Int).map V.int))) o3=some (.lst (([3,3,3,9,9,2,2]:List Int).map V.int)):=c8;generalize (c9 H6 o3 (.lst (([3,3,3,9,9,2,2]:List Int).map V.int)))=H7 at s7 h7o ⊢
   have elist:(ed6 (((4+more:Nat):Int)).toNat [V.int 1]).flatten++([3,3,3,9,9,2,2]:List Int).map V.int=(G3 (Q8 more)).map V.int:=by
     rcases (show more=0\/more=1 by omega) with z|z<;>subst z<;>rfl
   have lsum:(Q8 more).sum=n/\(Q8 more).length<=12/\∀l∈Q8 more,1<=l:=by
     rcases (show more=0\/more=1 by omega) with z|z<;>subst z<;>subst hn<;>decide
   refine ⟨o2,o3,_,_,rfl,rfl,s7 _ _ h6o,h7o,ei1 (t5 (by have:=congrArg et3 elist;rw[ec6] at this;unfold G3 at this;rw[this,eb7,eb7];omega)),fun o4 ho4=> ?_⟩;rw[elist];have s8:e7 H7 (c9 H7 o4 (.lst ((G3 (Q8 more)).map V.int))):=e7.upd_new ho4;have h8o:(c9 H7 o4 (.lst ((G3 (Q8 more)).map V.int))) o4=some (.lst ((G3 (Q8 more)).map V.int)):=c8;generalize (c9 H7 o4 (.lst ((G3 (Q8 more)).map V.int)))=H8 at s8 h8o ⊢;have s48:=((s5.trans s6).trans s7).trans s8;have h8l:=s48 _ _ h4l;have h8f:=s48 _ _ h4f;have D8:=D4.same s48;have n4g:o4≠g:=aq3 ((((D4.same s5).same s6).same s7)) ho4
   have n4l:o4≠lf:=fun z=>by rw[z,s7 _ _ (s6 _ _ (s5 _ _ h4l))] at ho4;cases ho4
   have n4f:o4≠fo:=fun z=>by rw[z,s7 _ _ (s6 _ _ (s5 _ _ h4f))] at ho4;cases ho4
   refine ⟨o4,rfl,⟨_,g9.of h8o⟩,K2 (K:=K) (a:=o4) (xs:=(G3 (Q8 more)).map V.int) (fun i σ H9=>∃(rs:List (List Int)) (ls fs:List Int) (v4 v5 v6:Option V),σ=[some (.ref g),some (.int (more:Int)),some (.ref lf),some (.ref fo),v4,v5,v6,none]/\H9 lf=some (.lst (ls.map V.int))/\H9 fo=some (.lst (fs.map V.int))/\fs.length=n/\rs.map et3=(Q8 more).take i/\(rs.flatten++ls).Perm (L2.Y0 0 n)/\bb1 fs rs/\B7 H9 g/\∀x u,H8 x=some u->x≠g->x≠lf->x≠fo->H9 x=some u)
     ⟨[],_,_,none,none,none,rfl,h8l,h8f,el7,rfl,List.Perm.refl _,(fun r hr=>by cases hr),D8,fun x u e _ _ _=>e⟩ (fun i σ H9 _ ⟨_,_,_,_,_,_,_,_,_,_,_,_,_,_,k⟩=>g9.of (k _ _ h8o n4g n4l n4f)) ?_ ?_⟩
   · rintro i y σ H9 hi ⟨rs,ls,fs,v4,v5,v6,rfl,h9l,h9f,lfs,erl,pm,al,D9,kb9⟩;obtain ⟨L,hL,rfl⟩:=ct6 hi;have L1:=lsum.2.2 L (ec8 hL)
     have lls:L<=ls.length:=by
       have e1:=pm.length_eq;rw[ec6,J9,List.length_flatten,erl] at e1
       have e2:((Q8 more).take (i+1)).sum=((Q8 more).take i).sum+L:=by rw[j8 hL,en6];simp
       have e3:((Q8 more).take (i+1)).sum+((Q8 more).drop (i+1)).sum=(Q8 more).sum:=by rw[<-en6,ei8]
       omega
     have L40:L<=40:=by
       have e1:=pm.length_eq;rw[ec6,J9] at e1;omega
     refine ⟨_,rfl,(L:Int),rfl,by omega,by omega,?_⟩
     refine S8 (lo:=0) (n:=((L:Nat):Int).toNat) (fun j ys σ H10=>∃(v:Option V) (zs qs:List Int),σ=[v,some (.ref lf),some (.ref g)]/\ys=zs.map V.int/\zs.length=j/\H10 lf=some (.lst (qs.map V.int))/\(zs++qs).Perm ls/\B7 H10 g/\∀x u,H9 x=some u->x≠g->x≠lf->H10 x=some u)
       ⟨none,[],ls,rfl,rfl,rfl,h9l,List.Perm.refl _,D9,fun x u e _ _=>e⟩ ?_ ?_
     · rintro j ys σ H10 hj ⟨v,zs,qs,rfl,rfl,lz,h10l,pm2,D10,kb10⟩;have e1:=pm2.length_eq;rw[ec6] at e1
       have hq:0 < qs.length:=by omega
       have lq:qs.length<=40:=by
         have e2:=pm.length_eq;rw[ec6,J9] at e2;omega
       refine ⟨_,rfl,.inl ⟨rfl,_,g9.of h10l⟩,_,rfl,g,rfl,D10,fun x H11 x0 D11 kb11=> ?_⟩;have h11l:=kb11 lf _ h10l nlg;refine ⟨_,rfl,lf,_,rfl,.inl (g9.of h11l),_,_,rfl,rfl,(by rw[eb7];show (0:Int) < (qs.length:Int);omega),?_⟩;have lqm:(qs.map V.int).length=qs.length:=eb7 _
       dsimp only
       rw[lqm];have q0:0<=x%(qs.length:Int):=eh7 _ (by omega);have q1:x%(qs.length:Int) < (qs.length:Int):=ek1 _ (by omega);generalize x%(qs.length:Int)=jx at q0 q1 ⊢;obtain ⟨jn,rfl⟩:=em3 q0
       have hjl:jn < qs.length:=by omega
       refine ⟨lf,_,_,jn,V.int qs[jn],rfl,rfl,h11l,by omega,by omega,?_,by rw[ec1,eb8 hjl];rfl,?_,?_⟩
       · have:ixN (qs.map V.int).length (jn:Int)=some jn:=by
           unfold ixN;rw[eb7,if_pos (by omega),if_pos (by omega)];simp
         exact (ba6 this).1
       · exact t5 (by rw[eb7];omega)
       · refine ⟨_,zs++[qs[jn]],qs.eraseIdx jn,rfl,by rw[ec4];rfl,by rw[ec6,lz];rfl,?_,?_,cc5 D11 nlg.symm,fun y u e n1 n2=>by rw[g6 n2];exact kb11 y u (kb10 y u e n1 n2) n1⟩
         · rw[c8,bs4]
         · refine List.Perm.trans ?_ pm2;rw[ed9];exact List.Perm.append_left zs (ar6 (eb8 hjl))
     rintro ys σ H10 ⟨v,zs,qs,rfl,rfl,lz,h10l,pm2,D10,kb10⟩ on hon;rw[show ((L:Nat):Int).toNat=L by omega] at lz;have s11:e7 H10 (c9 H10 on (.lst (zs.map V.int))):=e7.upd_new hon;have h11n:(c9 H10 on (.lst (zs.map V.int))) on=some (.lst (zs.map V.int)):=c8;generalize (c9 H10 on (.lst (zs.map V.int)))=H11 at s11 h11n ⊢;have h11f:=s11 _ _ (kb10 _ _ h9f nfg nfl)
     have nno:on≠fo:=fun z=>by rw[z,kb10 _ _ h9f nfg nfl] at hon;cases hon
     refine ⟨_,rfl,(L:Int),rfl,by omega,by omega,?_⟩;have pmz:(rs.flatten++(zs++qs)).Perm (L2.Y0 0 n):=(List.Perm.append_left _ pm2).trans pm;have ndz:(rs.flatten++(zs++qs)).Nodup:=pmz.nodup_iff.mpr (S9 _)
     have zin:∀z∈zs,0<=z/\z < (n:Int):=fun z hz=>R0.mp (pmz.mem_iff.mp (ed8 _ (ef7 _ hz)))
     have zout:∀z∈rs.flatten,z∉zs:=fun z hz h=>(eh0.mp ndz).2.2 z hz z (ef7 _ h) rfl
     have znd:zs.Nodup:=(eh0.mp (eh0.mp ndz).2.1).1;have lzL:zs.length=L:=lz
     refine C6 (lo:=0) (n:=((L:Nat):Int).toNat) (fun k σ H12=>∃(us:List Int) (v6:Option V),σ=[some (.ref g),some (.int (more:Int)),some (.ref lf),some (.ref fo),some (.int (L:Int)),some (.ref on),v6,none]/\H12 fo=some (.lst (us.map V.int))/\us.length=n/\(∀c,c < k->C9 us (zs.getD ((c+L - 1)%L) 0)=some (zs.getD c 0))/\(∀u,0<=u->u∉zs->C9 us u=C9 fs u)/\j5 fo H11 H12)
       ⟨fs,v6,rfl,h11f,lfs,(fun c hc=>by omega),fun u _ _=>rfl,j5.refl fo H11⟩ ?_ ?_
     · rintro k σ H12 hk ⟨us,v6,rfl,h12f,lus,done,out,kb12⟩
       have hkL:k < L:=by omega
       have e0:(0:Int)+(k:Int)=(k:Int):=by omega
       rw[e0];have h12n:=kb12 _ _ h11n nno;have pl:(k+L - 1)%L < L:=ei3 _ (by omega)
       have ixk:V7 (zs.map V.int) (k:Int)=some (.int (zs.getD k 0)):=by
         refine C4 (j:=k) ?_;rw[ec1,eb8 (show k < zs.length by omega),E9 (show k < zs.length by omega)];rfl
       have ixp:V7 (zs.map V.int) ((k:Int) - 1)=some (.int (zs.getD ((k+L - 1)%L) 0)):=by
         unfold V7 ixN;rw[eb7,lzL]
         by_cases c:k=0
         · subst c;rw[if_neg (by omega),if_pos (by omega),show (((0:Nat):Int) - 1+(L:Int)).toNat=L - 1 by omega,ej5,ef1 (by omega)];show (zs.map V.int)[L - 1]? =_;rw[ec1,eb8 (show L - 1 < zs.length by omega),E9 (show L - 1 < zs.length by omega)];rfl
         · have em:(k+L - 1)%L=k - 1:=by rw[show k+L - 1=(k - 1)+L by omega,eo9,ef1 (by omega)]
           rw[if_pos (by omega),if_pos (by omega),show ((k:Int) - 1).toNat=k - 1 by omega,em];show (zs.map V.int)[k - 1]? =_;rw[ec1,eb8 (show k - 1 < zs.length by omega),E9 (show k - 1 < zs.length by omega)];rfl
       have zm:zs.getD ((k+L - 1)%L) 0∈zs:=by rw[E9 (show (k+L - 1)%L < zs.length by omega)];exact ef2 _
       obtain ⟨z0,z1⟩:=zin _ zm;refine ⟨_,rfl,_,rfl,on,_,_,_,rfl,rfl,g9.of h12n,ixk,?_⟩;refine ⟨_,rfl,_,rfl,_,rfl,_,_,rfl,rfl,on,_,_,_,rfl,rfl,g9.of h12n,ixp,fo,_,_,(zs.getD ((k+L - 1)%L) 0).toNat,rfl,rfl,h12f,?_,?_⟩
       · unfold ixN;rw[eb7,lus,if_pos z0,if_pos z1]
       refine ⟨us.set (zs.getD ((k+L - 1)%L) 0).toNat (zs.getD k 0),_,rfl,by rw[c8,es9],by rw[en5,lus],fun c hc=> ?_,fun u u0 hu=> ?_,kb12.upd_a⟩
       · by_cases e:c=k
         · rw[e];exact ad1 (by omega)
         · have pc:(c+L - 1)%L < L:=ei3 _ (by omega)
           have cm:zs.getD ((c+L - 1)%L) 0∈zs:=by rw[E9 (show (c+L - 1)%L < zs.length by omega)];exact ef2 _
           have pne:(c+L - 1)%L≠(k+L - 1)%L:=fun z=>by
             have a1:(c+L - 1)%L=if c=0 then L - 1 else c - 1:=by
               by_cases y:c=0
               · rw[if_pos y,y,ej5,ef1 (by omega)]
               · rw[if_neg y,show c+L - 1=(c - 1)+L by omega,eo9,ef1 (by omega)]
             have a2:(k+L - 1)%L=if k=0 then L - 1 else k - 1:=by
               by_cases y:k=0
               · rw[if_pos y,y,ej5,ef1 (by omega)]
               · rw[if_neg y,show k+L - 1=(k - 1)+L by omega,eo9,ef1 (by omega)]
             rw[a1,a2] at z
             split at z<;>split at z<;>omega
           rw[Y4 (zin _ cm).1 z0 (Q4 znd (by omega) (by omega) pne)];exact done c (by omega)
       · rw[Y4 u0 z0 (fun z=>hu (by rw[z];exact zm))];exact out u u0 hu
     · rintro σ H12 ⟨us,v6,rfl,h12f,lus,done,out,kb12⟩;rw[show ((L:Nat):Int).toNat=L by omega] at done;refine ⟨rs++[zs],qs,us,_,_,_,rfl,kb12 _ _ (s11 _ _ h10l) nfl.symm,h12f,lus,?_,?_,fun r hr j hj=> ?_,?_,fun x u e n1 n2 n3=>kb12 x u (s11 _ _ (kb10 x u (kb9 x u e n1 n2 n3) n1 n2)) n3⟩
       · rw[ec4,erl,j8 hL];show _++[zs.length]=_;rw[lzL]
       · rw[ej0,ej3,ed9];exact pmz
       · rcases ed0.mp hr with w|w
         · have hm:r.getD j 0∈rs.flatten:=ee6.mpr ⟨r,w,by rw[E9 hj];exact ef2 _⟩;rw[out _ (R0.mp (pmz.mem_iff.mp (ef7 _ hm))).1 (zout _ hm)];exact al r w j hj
         · rw[ec9.mp w] at hj ⊢
           have cl:(j+1)%zs.length < L:=by rw[lzL];exact ei3 _ (by omega)
           have h:=done ((j+1)%zs.length) cl
           have ep:((j+1)%zs.length+L - 1)%L=j:=by
             rw[lzL] at hj ⊢
             by_cases y:j+1=L
             · rw[y,Nat.mod_self,ej5,ef1 (by omega)];omega
             · rw[ef1 (show j+1 < L by omega),show j+1+L - 1=j+L by omega,eo9,ef1 hj]
           rw[ep] at h;exact h
       · obtain ⟨dd,e,r'⟩:=D10.same s11;exact ⟨dd,kb12 _ _ e nfg.symm,r'⟩
   · rintro σ H9 ⟨rs,ls,fs,v4,v5,v6,rfl,h9l,h9f,lfs,erl,pm,al,D9,kb9⟩;rw[el3 (by unfold G3;rw[eb7,eb7];exact ec0 _)] at erl
     have ls0:ls=[]:=by
       have e1:=pm.length_eq;rw[ec6,J9,List.length_flatten,erl,lsum.1] at e1;exact ej9.mp (by omega)
     subst ls0;rw[ee3,<-lfs] at pm
     have ne:∀r∈rs,r≠[]:=fun r hr z=>by
       have:=lsum.2.2 r.length (by rw[<-erl];exact ed2.mpr ⟨r,hr,rfl⟩);rw[z] at this;exact absurd this (by decide)
     have tf:x8 fs:=bk7 al ne pm;have how:=db4 (m:=2) al ne pm;rw[erl,lfs,hn] at how;have ta:L4 H9 fo fs:=⟨h9f,tf,by omega⟩;have l0:H lf=none:=s1.free hlf;have f0:H fo=none:=(s02.trans s3).free hfo;have k8:Kp (S4 H g g) H8:=(Kp.into H g).trans (Kp.of (s04.trans s48))
     have hx0:∀{x},H x=none->S4 H g g x=none:=fun {x} e=>by
       unfold S4
       by_cases c:x=g\/x=g
       · rw[if_pos c]
       · rw[if_neg c];exact e
     have k9:Kp (S4 H g g) H9:=k8.kbs (S:=fun x=>x=g\/x=lf\/x=fo) (fun x hx=>by
       rcases hx with z|z|z
       · rw[z];exact cw3 H g
       · rw[z];exact hx0 l0
       · rw[z];exact hx0 f0) fun x u e n=>kb9 x u e (fun z=>n (.inl z)) (fun z=>n (.inr (.inl z))) fun z=>n (.inr (.inr z))
     rcases (show more=1\/more=0 by omega) with z|z
     · subst z;rw[db5] at how;refine ⟨_,rfl,fo,fs,2,rfl,ta,by decide,.inl ⟨by omega,fun H10 s10=> ?_⟩⟩;refine ⟨_,rfl,rfl,_,rfl,O8 ⟨_,rfl,.inl ⟨rfl,?_⟩⟩⟩;exact q H10 (k9.trans (Kp.of s10)) (D9.same s10)
     · subst z;rw[cb4] at how;refine ⟨_,rfl,fo,fs,2,rfl,ta,by decide,.inr ⟨by omega,fun o bs ts H10 ho h10o rows all bnd bfr ob kp=> ?_⟩⟩;have k10:=k9.trans kp
       have D10:B7 H10 g:=by
         obtain ⟨dd,e,r'⟩:=D9;exact ⟨dd,kp.lst e,r'⟩
       have h10f:=kp.lst h9f;have lts:=all.len;have lbs:bs.length=ts.length:=rows.1
       have l1:fs.length<=40:=by omega
       refine ⟨_,rfl,rfl,_,rfl,B6 ?_⟩;refine ⟨_,rfl,_,"list",_,true,rfl,.lst h10o,Z1 K "list",true,rfl,B6 ?_⟩;refine ⟨_,rfl,o,_,rfl,.inl (g9.of h10o),rfl,_,rfl,bt7 (by rw[eb7,lbs,lts,how];rfl) ?_⟩
       have rows0:∀H',m9 H' [] []:=fun H'=>⟨rfl,fun j b r h=>by cases h⟩
       refine ⟨_,rfl,40,rfl,40,o,_,rfl,by decide,rfl,g9.of h10o,fun pk hpk=> ?_⟩;have s11:e7 H10 (c9 H10 pk (.lst (ab3 (bs.map V.ref) 0 40))):=e7.upd_new hpk;have h11p:(c9 H10 pk (.lst (ab3 (bs.map V.ref) 0 40))) pk=some (.lst (ab3 (bs.map V.ref) 0 40)):=c8;generalize (c9 H10 pk (.lst (ab3 (bs.map V.ref) 0 40)))=H11 at s11 h11p ⊢
       refine ⟨pk,rfl,⟨_,g9.of h11p⟩,Z9 (K:=K) (a:=pk) (xs:=ab3 (bs.map V.ref) 0 40) (fun i ys σ H12=>∃v:Option V,σ=[v,some (.ref fo)]/\ys=[]/\e7 H11 H12)
         ⟨none,rfl,rfl,e7.refl _⟩ (fun i ys σ H12 _ ⟨_,_,_,s⟩=>g9.of (s _ _ h11p)) ?_ ?_⟩
       · rintro i x ys σ H12 hi ⟨v,rfl,rfl,s12⟩
         obtain ⟨j,b,hb,rfl⟩:∃j b,bs[j]? =some b/\x=V.ref b:=by
           have hm:=ec8 hi;unfold ab3 at hm;obtain ⟨j,_,e⟩:=es5.mp hm;rw[ec1] at e
           cases e2:bs[j]? with
           |none=>rw[e2] at e;cases e
           |some a=>rw[e2] at e;exact ⟨j,a,e2,(Option.some.inj e).symm⟩
         have il:j < ts.length:=by rw[<-rows.1];exact (eb9.mp hb).1
         obtain ⟨r,hr⟩:∃r,ts[j]? =some r:=⟨_,eb8 il⟩;have rr:=all.root tf l1 (by decide) r (ec8 hr);have lr':fs.length=r.length:=rr.2.1;have hb2:=s12 _ _ (s11 _ _ (rows.2 j b r hb hr));refine ⟨_,rfl,b,r,35,rfl,⟨hb2,rr.1,by omega⟩,by omega,fun H13 s13=>⟨true,rfl,B6 ?_⟩⟩;have s23:=s12.trans s13;refine ⟨_,rfl,b,r,2,rfl,⟨s13 _ _ hb2,rr.1,by omega⟩,fun l t H14 hl s14 pw h14=> ?_⟩;rw[pw.uniq rr.2] at h14;refine ⟨_,rfl,l,fo,_,_,_,rfl,rfl,g9.of h14,g9.of ((s23.trans s14) _ _ (s11 _ _ h10f)),Q9 _ _ _ _ _,_,rfl,?_⟩;rw[decide_eq_true rfl];exact B6 ⟨_,rfl,rfl,s23.trans s14⟩
       rintro ys σ H12 ⟨v,rfl,rfl,s12⟩ w1 hw1;have s13:e7 H12 (c9 H12 w1 (.lst [])):=e7.upd_new hw1;have h13w:(c9 H12 w1 (.lst [])) w1=some (.lst (([]:List Addr).map V.ref)):=c8;generalize (c9 H12 w1 (.lst []))=H13 at s13 h13w ⊢;refine ⟨ed7 _,fun w2 hw2=> ?_⟩;have s14:e7 H13 (c9 H13 w2 (.lst [])):=e7.upd_new hw2;have h14w:(c9 H13 w2 (.lst [])) w2=some (.lst (([]:List Addr).map V.ref)):=c8;generalize (c9 H13 w2 (.lst []))=H14 at s14 h14w ⊢;refine ⟨w1,w2,_,_,_,rfl,rfl,g9.of (s14 _ _ h13w),g9.of h14w,ae8 (rows0 H14) (rows0 H14),_,rfl,?_⟩;rw[decide_eq_true rfl];refine B6 ?_;have s1014:=(s11.trans s12).trans (s13.trans s14);have up:=ee7.mp (all.up tf l1 (by decide));refine ⟨1,2000,rfl,⟨by decide,by decide,by decide,by decide⟩,S8 (lo:=1) (n:=((2000:Int) - 1).toNat) (fun i ys σ H15=>∃v:Option V,σ=[v,some (.ref o)]/\ys=[]/\H15=H14) ⟨none,rfl,rfl,rfl⟩ ?_ ?_⟩
       · rintro i ys σ H15 hi ⟨v,rfl,rfl,rfl⟩
         have hi2:i+1 < 2000:=by
           have:((2000:Int) - 1).toNat=1999:=by decide
           omega
         have ea:bs[i]? =some (bs[i]'(by omega)):=eb8 (by omega);have eb:bs[i+1]? =some (bs[i+1]'(by omega)):=eb8 (by omega);have ra:ts[i]? =some (ts[i]'(by omega)):=eb8 (by omega);have rb:ts[i+1]? =some (ts[i+1]'(by omega)):=eb8 (by omega);have lt:=up i (i+1) (by omega) (by omega) (by omega)
         have ix1:V7 (bs.map V.ref) ((1:Int)+(i:Int) - 1)=some (.ref (bs[i]'(by omega))):=by
           rw[show (1:Int)+(i:Int) - 1=(i:Int) by omega];exact C4 (j:=i) (by rw[ec1,ea];rfl)
         have ix2:V7 (bs.map V.ref) ((1:Int)+(i:Int))=some (.ref (bs[i+1]'(by omega))):=by
           rw[show (1:Int)+(i:Int)=((i+1:Nat):Int) by omega];exact C4 (j:=i+1) (by rw[ec1,eb];rfl)
         refine ⟨_,rfl,_,rfl,_,_,rfl,rfl,o,_,_,_,rfl,rfl,g9.of (s1014 _ _ h10o),ix1,_,rfl,_,rfl,o,_,_,_,rfl,rfl,g9.of (s1014 _ _ h10o),ix2,?_⟩;refine ⟨_,_,_,_,rfl,rfl,s1014 _ _ (rows.2 i _ _ ea ra),s1014 _ _ (rows.2 (i+1) _ _ eb rb),true,?_,?_⟩
         · rw[lt]
         · exact B6 ⟨_,rfl,rfl,rfl⟩
       rintro ys σ H15 ⟨v,rfl,rfl,rfl⟩ w3 hw3;have s15:e7 H15 (c9 H15 w3 (.lst [])):=e7.upd_new hw3;have h15w:(c9 H15 w3 (.lst [])) w3=some (.lst (([]:List Int).map V.int)):=c8;generalize (c9 H15 w3 (.lst []))=H16 at s15 h15w ⊢;refine ⟨ed7 _,fun w4 hw4=> ?_⟩;have s16:e7 H16 (c9 H16 w4 (.lst [])):=e7.upd_new hw4;have h16w:(c9 H16 w4 (.lst [])) w4=some (.lst (([]:List Int).map V.int)):=c8;generalize (c9 H16 w4 (.lst []))=H17 at s16 h16w ⊢;refine ⟨w3,w4,_,_,_,rfl,rfl,g9.of (s16 _ _ h15w),g9.of h16w,Q9 _ _ _ _ _,?_⟩;rw[decide_eq_true rfl];have se:=s1014.trans (s15.trans s16);exact q H17 (k10.trans (Kp.of se)) (D10.same se)
def bu1 (K:PySem.W.Frag):Sp:=fun vs H Q _=>∃(a:Addr) (ns:List Int),vs=[.ref a]/\g9 K H a (ns.map V.int)/\ns.length<=63/\∀H',Q (.bl true) H'
theorem dv4 {R:St->Hp->Prop}{σ:St}{H:Hp}{A B:Prop}{b:Bool}(G:St->Hp->Prop)(rest:∀σ' H',G σ' H'->R σ' H')(hb:G σ H)(ha:(∀σ' H',G σ' H'->R σ' H')->A):if b=true then A else if false=true then B else R σ H:=by
 cases b with
 |true=>exact ha rest
 |false=>exact rest σ H hb
theorem at8 (x:Int):∃b:Nat,V7 (([7,7,7,7,13,13,17,41]:List Int).map V.int) (x%8)=some (.int (b:Int))/\1<=b/\b<=41:=by
 rcases (show x%8=0\/x%8=1\/x%8=2\/x%8=3\/x%8=4\/x%8=5\/x%8=6\/x%8=7 by omega) with e|e|e|e|e|e|e|e<;>rw[e]
 · exact ⟨7,C4 (j:=0) rfl,by decide,by decide⟩
 · exact ⟨7,C4 (j:=1) rfl,by decide,by decide⟩
 · exact ⟨7,C4 (j:=2) rfl,by decide,by decide⟩
 · exact ⟨7,C4 (j:=3) rfl,by decide,by decide⟩
 · exact ⟨13,C4 (j:=4) rfl,by decide,by decide⟩
 · exact ⟨13,C4 (j:=5) rfl,by decide,by decide⟩
 · exact ⟨17,C4 (j:=6) rfl,by decide,by decide⟩
 · exact ⟨41,C4 (j:=7) rfl,by decide,by decide⟩
theorem ak5:m8 ["script","k","deck","many","m","p"] ["script"] (j6 bb4):=⟨rfl,rfl,rfl,by decide+kernel,rfl,by decide+kernel,by decide+kernel⟩
theorem dr0 {f:Addr}{fd:FuncData}(F:E7 K "law" "law" bb4 f fd)(B:Bl mg)(c_law_deck:o5 P w K mg base "_law_deck" 2 ["cell","many"] bz5)(c_law_cell_at:o5 P w K mg base "_law_cell_at" 1 ["script","k"] (bz2 K))(c_law_next:o5 P w K mg base "_law_next" 1 ["deck"] ap6)(c_law_two_thousand:o5 P w K mg base "_law_two_thousand" 46 ["deck","more"] cm1)(c_law_m:o5 P w K mg base "_law_m" 2 ["deck"] spM)(c_law_turn:o5 P w K mg base "_law_turn" 2 ["deck","many"] bn0)(c_law_power:o5 P w K mg base "_law_power" 2 ["p","m"] ah3)(c_law_right:o5 P w K mg base "_law_right" 46 ["p","m"] (ba0 K)):o8 P w K mg base G2 47 f fd ["script"] (bu1 K):=by
 refine F.ok ak5 (fun vs H Q E h=> ?_) (fun cdv A outer s H vs Q E hr h=> ?_)
 · obtain ⟨sc,ns,rfl,hsc,hns,q⟩:=h;rfl
 · obtain ⟨sc,ns,rfl,hsc,hns,q⟩:=h;have hr_law_deck:n6 2 _:=hr.mono (by decide);have hr_law_cell_at:n6 1 _:=hr.mono (by decide);have hr_law_next:n6 1 _:=hr.mono (by decide);have hr_law_two_thousand:n6 46 _:=hr.mono (by decide);have hr_law_m:n6 2 _:=hr.mono (by decide);have hr_law_turn:n6 2 _:=hr.mono (by decide);have hr_law_power:n6 2 _:=hr.mono (by decide);have hr_law_right:n6 46 _:=hr.mono (by decide);refine ⟨_,@c7 _ _ _ _ _ (@o9 _ _ _ _ _ _ _ _ PassesOwn.never rfl (@G5 _ _ _ _ _ _ (by rfl) B.range (@c5 _ _ _ _ _ (@de5 _ _ _ _ _ _ rfl B.max (@c5 _ _ _ _ _ (@g8 _ _ _ _) (@c5 _ _ _ _ _ (@ce9 _ _ _ _ _ _ rfl B.min (@c5 _ _ _ _ _ (@A0 _ _ _ _ _ B.len (@c5 _ _ _ _ _ (pv 0) (@c6 _) (by rfl)) (by rfl) (by rfl)) (@c5 _ _ _ _ _ (@g8 _ _ _ _) (@c6 _) (by rfl)) (by rfl)) (by rfl) (by rfl) (by rfl)) (@c6 _) (by rfl)) (by rfl)) (by rfl) (by rfl) (by rfl)) (@c6 _) (by rfl)) (by rfl)) (@i8 _ _ (1) _ ak5.nd rfl (Or.inl rfl) (by trivial)) (@c7 _ _ _ _ _ (@i6 _ _ (2) _ _ _ _ ak5.nd rfl (Or.inl rfl) (@j7 _ _ _ _ _ _ _ _ _ _ c_law_deck hr_law_deck (@c5 _ _ _ _ _ (@j7 _ _ _ _ _ _ _ _ _ _ c_law_cell_at hr_law_cell_at (@c5 _ _ _ _ _ (pv 0) (@c5 _ _ _ _ _ (pv 1) (@c6 _) (by rfl)) (by rfl)) (by rfl) (by decide) (by rfl) (by rfl)) (@c5 _ _ _ _ _ (@g8 _ _ _ _) (@c6 _) (by rfl)) (by rfl)) (by rfl) (by decide) (by rfl) (by rfl)) (by rfl) (by trivial)) (@c7 _ _ _ _ _ (@B5 _ _ _ _ _ _ _ _ (@cm7 _ _ _ _ _ _ _ (@m7 _ _ _ _ _ _ _ _ V1 (pv 1) (@g8 _ _ _ _) (n0 _)) (@cm7 _ _ _ _ _ _ _ (@m7 _ _ _ _ _ _ _ _ V1 (@i7 _ _ _ _ _ _ _ _ E4 (@j7 _ _ _ _ _ _ _ _ _ _ c_law_next hr_law_next (@c5 _ _ _ _ _ (pv 2) (@c6 _) (by rfl)) (by rfl) (by decide) (by rfl) (by rfl)) (@g8 _ _ _ _)) (@g8 _ _ _ _) (n0 _)) (@dd5 _ _ _ _ (@N8 _ _ _ _ (@O6 _ _ _ (@j7 _ _ _ _ _ _ _ _ _ _ c_law_two_thousand hr_law_two_thousand (@c5 _ _ _ _ _ (pv 2) (@c5 _ _ _ _ _ (@i7 _ _ _ _ _ _ _ _ E4 (@j7 _ _ _ _ _ _ _ _ _ _ c_law_next hr_law_next (@c5 _ _ _ _ _ (pv 2) (@c6 _) (by rfl)) (by rfl) (by decide) (by rfl) (by rfl)) (@g8 _ _ _ _)) (@c6 _) (by rfl)) (by rfl)) (by rfl) (by decide) (by rfl) (by rfl)) (by intro _;rfl)))))).pt (@e8 _ _ _ (@j9 _ _ _ _ (@M9 _ _ _ _))) (@r6 _)) (@c7 _ _ _ _ _ (@i6 _ _ (3) _ _ _ _ ak5.nd rfl (Or.inl rfl) (@i7 _ _ _ _ _ _ _ _ E4 (@j7 _ _ _ _ _ _ _ _ _ _ c_law_next hr_law_next (@c5 _ _ _ _ _ (pv 2) (@c6 _) (by rfl)) (by rfl) (by decide) (by rfl) (by rfl)) (@J2 _ _ _ _ _ _ _ B9 (@bw7 _ _ _ [7,7,7,7,13,13,17,41] rfl) (@i7 _ _ _ _ _ _ _ _ E4 (@j7 _ _ _ _ _ _ _ _ _ _ c_law_next hr_law_next (@c5 _ _ _ _ _ (pv 2) (@c6 _) (by rfl)) (by rfl) (by decide) (by rfl) (by rfl)) (@g8 _ _ _ _)) (fun _ _=>rfl))) (by rfl) (by trivial)) (@c7 _ _ _ _ _ (@i6 _ _ (4) _ _ _ _ ak5.nd rfl (Or.inl rfl) (@j7 _ _ _ _ _ _ _ _ _ _ c_law_m hr_law_m (@c5 _ _ _ _ _ (pv 2) (@c6 _) (by rfl)) (by rfl) (by decide) (by rfl) (by rfl)) (by rfl) (by trivial)) (@c7 _ _ _ _ _ (@i6 _ _ (5) _ _ _ _ ak5.nd rfl (Or.inl rfl) (@j7 _ _ _ _ _ _ _ _ _ _ c_law_turn hr_law_turn (@c5 _ _ _ _ _ (pv 2) (@c5 _ _ _ _ _ (pv 3) (@c6 _) (by rfl)) (by rfl)) (by rfl) (by decide) (by rfl) (by rfl)) (by rfl) (by trivial)) (@c7 _ _ _ _ _ (@B5 _ _ _ _ _ _ _ _ (@m7 _ _ _ _ _ _ _ _ V1 (@i7 _ _ _ _ _ _ _ _ E4 (@j7 _ _ _ _ _ _ _ _ _ _ c_law_next hr_law_next (@c5 _ _ _ _ _ (pv 2) (@c6 _) (by rfl)) (by rfl) (by decide) (by rfl) (by rfl)) (@g8 _ _ _ _)) (@g8 _ _ _ _) (n0 _)) (@e8 _ _ _ (@i6 _ _ (5) _ _ _ _ ak5.nd rfl (Or.inl rfl) (@j7 _ _ _ _ _ _ _ _ _ _ c_law_power hr_law_power (@c5 _ _ _ _ _ (pv 5) (@c5 _ _ _ _ _ (pv 4) (@c6 _) (by rfl)) (by rfl)) (by rfl) (by decide) (by rfl) (by rfl)) (by rfl) (by trivial))) (@r6 _)) (@e8 _ _ _ (@B5 _ _ _ _ _ _ _ _ (@N8 _ _ _ _ (@O6 _ _ _ (@j7 _ _ _ _ _ _ _ _ _ _ c_law_right hr_law_right (@c5 _ _ _ _ _ (pv 5) (@c5 _ _ _ _ _ (pv 4) (@c6 _) (by rfl)) (by rfl)) (by rfl) (by decide) (by rfl) (by rfl)) (by intro _;rfl))) (@e8 _ _ _ (@j9 _ _ _ _ (@M9 _ _ _ _))) (@r6 _))))))))) (by intro _;rfl)) (@e8 _ _ _ (@j9 _ _ _ _ (@M9 _ _ _ _))),?_⟩
   try dsimp only[y7,Cx.nox,Cx.wish]
   refine ⟨_,rfl,sc,_,rfl,.inl hsc,_,3,rfl,1,_,rfl,_,rfl,?_⟩;obtain ⟨mx,hmx,hm1,hm2⟩:=dn5 (n:=3) (c:=((ns.map V.int).length:Int)) (by decide) (by omega);rw[hmx]
   refine ⟨by omega,by omega,C6 (lo:=0) (n:=mx.toNat) (fun i σ H2=>∃v1 v2 v3 v4 v5:Option V,σ=[some (.ref sc),v1,v2,v3,v4,v5]/\Kp H H2)
     ⟨none,none,none,none,none,rfl,Kp.refl H⟩ ?_ (fun σ H2 ⟨_,_,_,_,_,_,_⟩=>q H2)⟩
   rintro i σ H2 hi ⟨v1,v2,v3,v4,v5,rfl,k02⟩;refine cl2 ?_;intros;refine ⟨_,rfl,_,rfl,sc,ns,_,rfl,k02.seq hsc,by omega,fun z=> ?_⟩;refine ⟨z,120,rfl,by decide,fun g H3 hg s03 D3=> ?_⟩
   have sh3:e7 H2 (S4 H3 g g):=fun b u e=>ah5 (s03 _ _ e) (fun z=>by rw[z,hg] at e;cases e)
   have k3h:Kp H2 H3:=Kp.of s03;refine ⟨_,rfl,rfl,_,rfl,?_⟩
   refine dv4 (fun σ' H'=>σ'=[some (.ref sc),some (.int ((0:Int)+(i:Int))),some (.ref g),v3,v4,v5]/\B7 H' g/\Kp H2 H') ?_ ⟨rfl,D3,k3h⟩ fun rest=> ?_
   rotate_left
   · refine ⟨_,rfl,g,rfl,D3,fun x1 H4 x10 D4 kb4=>⟨_,_,rfl,rfl,(by show (0:Int) < 8;decide),rfl,_,rfl,?_⟩⟩;have k4:=k3h.kb hg kb4
     by_cases c:V.int (x1%8)=V.int 3
     · rw[decide_eq_true c];refine O8 ⟨_,rfl,_,rfl,g,rfl,D4,fun x2 H5 x20 D5 kb5=>⟨_,_,rfl,rfl,(by show (0:Int) < 2;decide),?_⟩⟩;have k5:=k4.kb hg kb5;have c1:=eh7 x2 (show (2:Int)≠0 by decide);have c2:=ek1 x2 (show (0:Int) < 2 by decide);obtain ⟨mo,hmo⟩:=em3 c1;refine ⟨g,mo,by rw[<-hmo];rfl,D5,by omega,fun H6 k6 D6=>⟨true,rfl,B6 ?_⟩⟩;refine rest _ _ ⟨rfl,D6,?_⟩;have kk:=k5.hol2 (g:=g)
       have e2:S4 H2 g g=H2:=by
         funext b;unfold S4
         by_cases y:b=g\/b=g
         · rw[if_pos y];rcases y with y|y<;>rw[y,hg]
         · rw[if_neg y]
       rw[e2] at kk;exact kk.trans k6
     · rw[decide_eq_false c];exact B6 (B6 (rest _ _ ⟨rfl,D4,k4⟩))
   rintro σ' H4 ⟨rfl,D4,k4⟩;refine ⟨_,rfl,g,rfl,D4,fun x1 H5 x10 D5 kb5=> ?_⟩;have k5:=k4.kb hg kb5;refine ⟨(by show 8<=sizeLine;decide),fun e he=> ?_⟩;have nge:e≠g:=aq3 D5 he;refine ⟨_,rfl,g,rfl,cc5 D5 nge.symm,fun x2 H6 x20 D6 kb6=>⟨_,_,rfl,rfl,(by show (0:Int) < 8;decide),?_⟩⟩;have h6e:=kb6 e _ c8 nge;have k6:Kp H2 H6:=(k5.trans (Kp.of (e7.upd_new he))).kb hg kb6;obtain ⟨bv,hat,bv1,bv2⟩:=at8 x2;refine ⟨e,_,_,_,rfl,rfl,g9.of h6e,hat,_,_,rfl,rfl,(show (0:Int) < (bv:Int) by omega),?_⟩;have c1:=eh7 x1 (show (bv:Int)≠0 by omega);have c2:=ek1 x1 (show (0:Int) < (bv:Int) by omega);obtain ⟨n,hn⟩:=em3 c1;have en:(n:Int)=x1%(bv:Int):=hn.symm;refine ⟨_,rfl,g,rfl,D6,fun m H7 m1 m2 D7 kb7=> ?_⟩;have k7:=k6.kb hg kb7;refine ⟨_,rfl,_,rfl,g,n,by rw[en];rfl,D7,by omega,fun pa0 p0 H8 hpa tp0 lp0 h8p D8 kb8=> ?_⟩;have k8:=k7.kb hg kb8;have npg:pa0≠g:=aq3 D7 hpa;refine ⟨_,rfl,g,rfl,D8,fun x5 H9 x50 D9 kb9=>⟨_,_,rfl,rfl,(by show (0:Int) < 2;decide),rfl,_,rfl,?_⟩⟩;have k9:=k8.kb hg kb9;have h9p:=kb9 _ _ h8p npg
   refine dv3 (fun σ' H'=>∃(pa:Addr) (p:List Int),σ'=[some (.ref sc),some (.int ((0:Int)+(i:Int))),some (.ref g),some (.int (n:Int)),some (.int (m:Int)),some (.ref pa)]/\L4 H' pa p/\Kp H2 H') ?_ ⟨pa0,p0,by rw[en];rfl,⟨h9p,tp0,by omega⟩,k9⟩ fun rest=> ?_
   rotate_left
   · refine ⟨_,rfl,_,rfl,pa0,p0,(m:Int),rfl,⟨h9p,tp0,by omega⟩,fun qa t2 H11 hqa s11 pw h11=> ?_⟩;have lt2:t2.length=p0.length:=pw.1;exact rest _ _ ⟨qa,t2,by rw[en];rfl,⟨h11,de8 tp0 pw,by omega⟩,k9.trans (Kp.of s11)⟩
   rintro σ' H10 ⟨pa,p,rfl,tp,k10⟩;refine ⟨_,rfl,_,rfl,pa,p,m,rfl,tp,m1,fun H11 k11=>⟨true,rfl,B6 ?_⟩⟩;exact ⟨_,_,_,_,_,rfl,(k02.trans k10).trans k11⟩
end
end My
namespace My
open PySem L2 Mth
theorem eb5 {l:PySem.W.OpenLaw}{w:World}{K:PySem.W.Frag}{h:Heap}{mg:Str->Option Value}{fa f0 f1 f2 f3 f4 f5 f6 f7 f8 f9 f10 f11 f12 f13 f14 f15 f16 f17 f18 f19 f20 f21 f22 f23 f24 f25 f26 f27 f28 f29 f30 f31 f32 f33 f34 f35 f36 f37 f38 f39 f40:Addr}{q_TurnError q_NoTurn q_NoFit q_NoRounds q_NoNumber q_NoRoot q_TooMany q_NoKind q_NoText q_NoName q_NoRow:Addr}{tk0 tk1:Tok}(X:K.In h)(G:h.Ns mainGlobals mg)(hfa:mg "law"=some (.ref fa))
   (u0:Fu K "is_whole" at2 f0)
   (u1:Fu K "must_be_from_one" W2 f1)
   (u2:Fu K "must_be_few" Y8 f2)
   (u3:Fu K "greatest_part" ab4 f3)
   (u4:Fu K "walk_ring" am5 f4)
   (u5:Fu K "walk_rings" ai9 f5)
   (u6:Fu K "send_along" W3 f6)
   (u7:Fu K "sort_by_length" Z3 f7)
   (u8:Fu K "picks_of" at3 f8)
   (u9:Fu K "lay_every_way" ab5 f9)
   (u10:Fu K "is_turn" ay4 f10)
   (u11:Fu K "must_be_turn" ad7 f11)
   (u12:Fu K "join_rings" aj0 f12)
   (u13:Fu K "right_numbers" ab6 f13)
   (u14:Fu K "ways_to_follow" Z4 f14)
   (u15:Fu K "count_joins" af8 f15)
   (u16:Fu K "how_many_roots" Z5 f16)
   (u17:Fu K "chains_of" am6 f17)
   (u18:Fu K "ways_to_join" X4 f18)
   (u19:Fu K "all_roots" ae4 f19)
   (u20:Fu K "_law_cell_at" af9 f20)
   (u21:Fu K "_law_stir" at4 f21)
   (u22:Fu K "_law_deck" at5 f22)
   (u23:Fu K "_law_next" at6 f23)
   (u24:Fu K "_law_turn" au0 f24)
   (u25:Fu K "_law_m" bm8 f25)
   (u26:Fu K "_law_rounds" aj1 f26)
   (u27:Fu K "_law_power" am7 f27)
   (u28:Fu K "_law_counts" aj2 f28)
   (u29:Fu K "_law_is_turn" ag0 f29)
   (u30:Fu K "_law_rights" aj3 f30)
   (u31:Fu K "_law_woven" am8 f31)
   (u32:Fu K "_law_how_many" ad8 f32)
   (u33:Fu K "_law_every" am9 f33)
   (u34:Fu K "_law_roots" an0 f34)
   (u35:Fu K "_law_word" au1 f35)
   (u36:Fu K "_law_asked" an1 f36)
   (u37:Fu K "_law_told_right" Z6 f37)
   (u38:Fu K "_law_right" an2 f38)
   (u39:Fu K "_law_two_thousand" W4 f39)
   (u40:Fu K "law" bb4 f40)
   (m0:PySem.W.nsIn K mainGlobals "MOST_THINGS"=some (some (.int 40 tk0)))
   (m1:PySem.W.nsIn K mainGlobals "MOST_TOLD"=some (some (.int 2000 tk1)))
   (zz:Fre K ["len","isinstance","int","bool","list","range","sum","min","max","enumerate","zip","sorted","tuple","str","repr","all","any","set","dict","ValueError"])
   (uT:PySem.W.nsIn K mainGlobals "TurnError"=some (some (.ref q_TurnError)))
   (uTb:PySem.W.mroIn K q_TurnError (.type "BaseException")=some true)
   (uTc:PySem.W.isClsIn K q_TurnError=true)
   (uTt:PySem.W.typeIn K (.ref q_TurnError)=some (.type "type"))
   (uG:PySem.W.specialIn K (.builtin "object.__class__") "__get__"=some (some (.builtin "getset_descriptor.__get__")))
   (uK:PySem.W.takesIn K (.builtin "object.__class__")=some true)
   (uC:bm6 K q_TurnError [(("NoTurn":Str),q_NoTurn),(("NoFit":Str),q_NoFit),(("NoRounds":Str),q_NoRounds),(("NoNumber":Str),q_NoNumber),(("NoRoot":Str),q_NoRoot),(("TooMany":Str),q_TooMany),(("NoKind":Str),q_NoKind),(("NoText":Str),q_NoText),(("NoName":Str),q_NoName),(("NoRow":Str),q_NoRow)])
   (uP:bm7 K [(("NoTurn":Str),q_NoTurn),(("NoFit":Str),q_NoFit),(("NoRounds":Str),q_NoRounds),(("NoNumber":Str),q_NoNumber),(("NoRoot":Str),q_NoRoot),(("TooMany":Str),q_TooMany),(("NoKind":Str),q_NoKind),(("NoText":Str),q_NoText),(("NoName":Str),q_NoName),(("NoRow":Str),q_NoRow)] 0 [(("NoTurn":Str),q_NoTurn),(("NoFit":Str),q_NoFit),(("NoRounds":Str),q_NoRounds),(("NoNumber":Str),q_NoNumber),(("NoRoot":Str),q_NoRoot),(("TooMany":Str),q_TooMany),(("NoKind":Str),q_NoKind),(("NoText":Str),q_NoText),(("NoName":Str),q_NoName),(("NoRow":Str),q_NoRow)])
   :∃fd:FuncData,(∀(s:Shared) (v:Value),BindsTo s fd ⟨[v],[]⟩ [("script",v)])/\∀base:Heap,K.In base->base.Ns mainGlobals mg->o8 l.prog w K mg base G2 47 fa fd ["script"] (bu1 K):=by
 obtain ⟨d0,a0,F0⟩:=u0;obtain ⟨d1,a1,F1⟩:=u1;obtain ⟨d2,a2,F2⟩:=u2;obtain ⟨d3,a3,F3⟩:=u3;obtain ⟨d4,a4,F4⟩:=u4;obtain ⟨d5,a5,F5⟩:=u5;obtain ⟨d6,a6,F6⟩:=u6;obtain ⟨d7,a7,F7⟩:=u7;obtain ⟨d8,a8,F8⟩:=u8;obtain ⟨d9,a9,F9⟩:=u9;obtain ⟨d10,a10,F10⟩:=u10;obtain ⟨d11,a11,F11⟩:=u11;obtain ⟨d12,a12,F12⟩:=u12;obtain ⟨d13,a13,F13⟩:=u13;obtain ⟨d14,a14,F14⟩:=u14;obtain ⟨d15,a15,F15⟩:=u15;obtain ⟨d16,a16,F16⟩:=u16;obtain ⟨d17,a17,F17⟩:=u17;obtain ⟨d18,a18,F18⟩:=u18;obtain ⟨d19,a19,F19⟩:=u19;obtain ⟨d20,a20,F20⟩:=u20;obtain ⟨d21,a21,F21⟩:=u21;obtain ⟨d22,a22,F22⟩:=u22;obtain ⟨d23,a23,F23⟩:=u23;obtain ⟨d24,a24,F24⟩:=u24;obtain ⟨d25,a25,F25⟩:=u25;obtain ⟨d26,a26,F26⟩:=u26;obtain ⟨d27,a27,F27⟩:=u27;obtain ⟨d28,a28,F28⟩:=u28;obtain ⟨d29,a29,F29⟩:=u29;obtain ⟨d30,a30,F30⟩:=u30;obtain ⟨d31,a31,F31⟩:=u31;obtain ⟨d32,a32,F32⟩:=u32;obtain ⟨d33,a33,F33⟩:=u33;obtain ⟨d34,a34,F34⟩:=u34;obtain ⟨d35,a35,F35⟩:=u35;obtain ⟨d36,a36,F36⟩:=u36;obtain ⟨d37,a37,F37⟩:=u37;obtain ⟨d38,a38,F38⟩:=u38;obtain ⟨d39,a39,F39⟩:=u39;obtain ⟨d40,a40,F40⟩:=u40;have e:=hfa.symm.trans (PySem.W.mg_of X G a40);cases e;obtain ⟨z0,z1,z2,z3,z4,z5,z6,z7,z8,z9,z10,z11,z12,z13,z14,z15,z16,z17,z18,z19,_⟩:=zz;have zn {y:Str} (z:PySem.W.nsIn K mainGlobals y=some none):=PySem.W.mg_none_of X G z;have B:Bl mg:=⟨zn z0,zn z1,zn z2,zn z3,zn z4,zn z5,zn z6,zn z7,zn z8,zn z9,zn z10,zn z11,zn z12,zn z13,zn z14,zn z15,zn z16,zn z17,zn z18,zn z19⟩;have mt:∃t,mg "MOST_THINGS"=some (.int 40 t):=⟨_,PySem.W.mg_of X G m0⟩;have g_MOST_TOLD:∃t,mg "MOST_TOLD"=some (.int 2000 t):=⟨_,PySem.W.mg_of X G m1⟩;have ER:bi5 K mg q_TurnError [(("NoTurn":Str),q_NoTurn),(("NoFit":Str),q_NoFit),(("NoRounds":Str),q_NoRounds),(("NoNumber":Str),q_NoNumber),(("NoRoot":Str),q_NoRoot),(("TooMany":Str),q_TooMany),(("NoKind":Str),q_NoKind),(("NoText":Str),q_NoText),(("NoName":Str),q_NoName),(("NoRow":Str),q_NoRow)]:=ct1 X G uT uTb uTc uTt uG uK uC uP (show (["NoTurn","NoFit","NoRounds","NoNumber","NoRoot","TooMany","NoKind","NoText","NoName","NoRow"]:List Str).Nodup by decide+kernel)
 have ES:∀p∈[(("NoTurn":Str),q_NoTurn),(("NoFit":Str),q_NoFit),(("NoRounds":Str),q_NoRounds),(("NoNumber":Str),q_NoNumber),(("NoRoot":Str),q_NoRoot),(("TooMany":Str),q_TooMany),(("NoKind":Str),q_NoKind),(("NoText":Str),q_NoText),(("NoName":Str),q_NoName),(("NoRow":Str),q_NoRow)],dz4 K p.2:=fun p hp=>⟨(uC.get p hp).s,(uC.get p hp).b⟩
 have e_NoTurn:Err K mg "NoTurn" q_NoTurn:=ER.err ("NoTurn",q_NoTurn) (by simp);have e_NoFit:Err K mg "NoFit" q_NoFit:=ER.err ("NoFit",q_NoFit) (by simp);have e_NoRounds:Err K mg "NoRounds" q_NoRounds:=ER.err ("NoRounds",q_NoRounds) (by simp);have e_NoNumber:Err K mg "NoNumber" q_NoNumber:=ER.err ("NoNumber",q_NoNumber) (by simp);have e_NoRoot:Err K mg "NoRoot" q_NoRoot:=ER.err ("NoRoot",q_NoRoot) (by simp);have e_TooMany:Err K mg "TooMany" q_TooMany:=ER.err ("TooMany",q_TooMany) (by simp);have e_NoKind:Err K mg "NoKind" q_NoKind:=ER.err ("NoKind",q_NoKind) (by simp);have e_NoText:Err K mg "NoText" q_NoText:=ER.err ("NoText",q_NoText) (by simp);have e_NoName:Err K mg "NoName" q_NoName:=ER.err ("NoName",q_NoName) (by simp);have e_NoRow:Err K mg "NoRow" q_NoRow:=ER.err ("NoRow",q_NoRow) (by simp)
 have b0:=F0.binds (ps:=["thing"]) fun _ _ _ _ _ _ us hl=>match us,hl with|[_],_=>rfl
 have b1:=F1.binds (ps:=["number"]) fun _ _ _ _ _ _ us hl=>match us,hl with|[_],_=>rfl
 have b2:=F2.binds (ps:=["many"]) fun _ _ _ _ _ _ us hl=>match us,hl with|[_],_=>rfl
 have b3:=F3.binds (ps:=["a","b"]) fun _ _ _ _ _ _ us hl=>match us,hl with|[_,_],_=>rfl
 have b4:=F4.binds (ps:=["p","first"]) fun _ _ _ _ _ _ us hl=>match us,hl with|[_,_],_=>rfl
 have b5:=F5.binds (ps:=["p"]) fun _ _ _ _ _ _ us hl=>match us,hl with|[_],_=>rfl
 have b6:=F6.binds (ps:=["target","ring","steps"]) fun _ _ _ _ _ _ us hl=>match us,hl with|[_,_,_],_=>rfl
 have b7:=F7.binds (ps:=["rings"]) fun _ _ _ _ _ _ us hl=>match us,hl with|[_],_=>rfl
 have b8:=F8.binds (ps:=["rings"]) fun _ _ _ _ _ _ us hl=>match us,hl with|[_],_=>rfl
 have b9:=F9.binds (ps:=["p","choices"]) fun _ _ _ _ _ _ us hl=>match us,hl with|[_,_],_=>rfl
 have b10:=F10.binds (ps:=["thing"]) fun _ _ _ _ _ _ us hl=>match us,hl with|[_],_=>rfl
 have b11:=F11.binds (ps:=["thing"]) fun _ _ _ _ _ _ us hl=>match us,hl with|[_],_=>rfl
 have b12:=F12.binds (ps:=["rings","m"]) fun _ _ _ _ _ _ us hl=>match us,hl with|[_,_],_=>rfl
 have b13:=F13.binds (ps:=["length","m","most"]) fun _ _ _ _ _ _ us hl=>match us,hl with|[_,_,_],_=>rfl
 have b14:=F14.binds (ps:=["left","part","length"]) fun _ _ _ _ _ _ us hl=>match us,hl with|[_,_,_],_=>rfl
 have b15:=F15.binds (ps:=["length","many","m"]) fun _ _ _ _ _ _ us hl=>match us,hl with|[_,_,_],_=>rfl
 have b16:=F16.binds (ps:=["p","m"]) fun _ _ _ _ _ _ us hl=>match us,hl with|[_,_],_=>rfl
 have b17:=F17.binds (ps:=["rings","part"]) fun _ _ _ _ _ _ us hl=>match us,hl with|[_,_],_=>rfl
 have b18:=F18.binds (ps:=["rings","right","m"]) fun _ _ _ _ _ _ us hl=>match us,hl with|[_,_,_],_=>rfl
 have b19:=F19.binds (ps:=["p","m"]) fun _ _ _ _ _ _ us hl=>match us,hl with|[_,_],_=>rfl
 have b20:=F20.binds (ps:=["script","k"]) fun _ _ _ _ _ _ us hl=>match us,hl with|[_,_],_=>rfl
 have b21:=F21.binds (ps:=["cell","k"]) fun _ _ _ _ _ _ us hl=>match us,hl with|[_,_],_=>rfl
 have b22:=F22.binds (ps:=["cell","many"]) fun _ _ _ _ _ _ us hl=>match us,hl with|[_,_],_=>rfl
 have b23:=F23.binds (ps:=["deck"]) fun _ _ _ _ _ _ us hl=>match us,hl with|[_],_=>rfl
 have b24:=F24.binds (ps:=["deck","many"]) fun _ _ _ _ _ _ us hl=>match us,hl with|[_,_],_=>rfl
 have b25:=F25.binds (ps:=["deck"]) fun _ _ _ _ _ _ us hl=>match us,hl with|[_],_=>rfl
 have b26:=F26.binds (ps:=["p"]) fun _ _ _ _ _ _ us hl=>match us,hl with|[_],_=>rfl
 have b27:=F27.binds (ps:=["p","m"]) fun _ _ _ _ _ _ us hl=>match us,hl with|[_,_],_=>rfl
 have b28:=F28.binds (ps:=["p"]) fun _ _ _ _ _ _ us hl=>match us,hl with|[_],_=>rfl
 have b29:=F29.binds (ps:=["found","many"]) fun _ _ _ _ _ _ us hl=>match us,hl with|[_,_],_=>rfl
 have b30:=F30.binds (ps:=["l","m","most"]) fun _ _ _ _ _ _ us hl=>match us,hl with|[_,_,_],_=>rfl
 have b31:=F31.binds (ps:=["l","many","rights"]) fun _ _ _ _ _ _ us hl=>match us,hl with|[_,_,_],_=>rfl
 have b32:=F32.binds (ps:=["p","m"]) fun _ _ _ _ _ _ us hl=>match us,hl with|[_,_],_=>rfl
 have b33:=F33.binds (ps:=["many"]) fun _ _ _ _ _ _ us hl=>match us,hl with|[_],_=>rfl
 have b34:=F34.binds (ps:=["p","m"]) fun _ _ _ _ _ _ us hl=>match us,hl with|[_,_],_=>rfl
 have b35:=F35.binds (ps:=["caught"]) fun _ _ _ _ _ _ us hl=>match us,hl with|[_],_=>rfl
 have b36:=F36.binds (ps:=["p","m"]) fun _ _ _ _ _ _ us hl=>match us,hl with|[_,_],_=>rfl
 have b37:=F37.binds (ps:=["found","p","m","many"]) fun _ _ _ _ _ _ us hl=>match us,hl with|[_,_,_,_],_=>rfl
 have b38:=F38.binds (ps:=["p","m"]) fun _ _ _ _ _ _ us hl=>match us,hl with|[_,_],_=>rfl
 have b39:=F39.binds (ps:=["deck","more"]) fun _ _ _ _ _ _ us hl=>match us,hl with|[_,_],_=>rfl
 obtain ⟨oc,od,kV,dc,pm,an,cd,ct,sl,rfl,lk,hcd⟩:=id F40.ex;refine ⟨PySem.W.fnOf "law" "law" (ah0 bb4) (Z8 bb4) (j6 bb4) .none kV dc pm an cd ct,fun s v=> .of_eq rfl,fun base _ _=> ?_⟩;have c_is_whole:o5 l.prog w K mg base "is_whole" 1 ["thing"] (bb5 K):=i9 X G a0 F0 b0 (cz6 F0 B);have c_must_be_from_one:o5 l.prog w K mg base "must_be_from_one" 2 ["number"] cl1:=i9 X G a1 F1 b1 (dp6 F1 c_is_whole);have cx_must_be_few:ay0 l.prog w K mg base "must_be_few" 1 ["many"] (fun vs H Q E=>az2 vs H Q E\/(cc1 q_TooMany) vs H Q E):=cg4 X G a2 F2 b2 (o8.or (o8.lift (aq0 F2 g_MOST_TOLD)) (bk9 F2 g_MOST_TOLD e_TooMany));have c_must_be_few:o5 l.prog w K mg base "must_be_few" 1 ["many"] az2:=i9 X G a2 F2 b2 (aq0 F2 g_MOST_TOLD);have c_greatest_part:o5 l.prog w K mg base "greatest_part" 1 ["a","b"] cl0:=i9 X G a3 F3 b3 (dp5 F3);have c_walk_ring:o5 l.prog w K mg base "walk_ring" 1 ["p","first"] by7:=i9 X G a4 F4 b4 (dh6 F4);have c_walk_rings:o5 l.prog w K mg base "walk_rings" 2 ["p"] aa3:=i9 X G a5 F5 b5 (cz7 F5 B c_walk_ring);have c_send_along:o5 l.prog w K mg base "send_along" 1 ["target","ring","steps"] (ck5 bj3 bb8):=i9 X G a6 F6 b6 (dt5 (dh7 F6 B) (bt2 F6 B));have c_sort_by_length:o5 l.prog w K mg base "sort_by_length" 1 ["rings"] bb6:=i9 X G a7 F7 b7 (da1 F7 B);have c_picks_of:o5 l.prog w K mg base "picks_of" 1 ["rings"] bn5:=i9 X G a8 F8 b8 (cd7 F8 B);have c_lay_every_way:o5 l.prog w K mg base "lay_every_way" 1 ["p","choices"] cl4:=i9 X G a9 F9 b9 (bg2 F9 B);have c_is_turn:o5 l.prog w K mg base "is_turn" 2 ["thing"] be9:=i9 X G a10 F10 b10 (ct2 F10 B mt c_is_whole);have c_must_be_turn:o5 l.prog w K mg base "must_be_turn" 3 ["thing"] by6:=i9 X G a11 F11 b11 (dh5 F11 c_is_turn);have c_join_rings:o5 l.prog w K mg base "join_rings" 1 ["rings","m"] bj4:=i9 X G a12 F12 b12 (dh8 F12 B);have c_right_numbers:o5 l.prog w K mg base "right_numbers" 2 ["length","m","most"] au3:=i9 X G a13 F13 b13 (bf3 F13 B c_greatest_part);have c_ways_to_follow:o5 l.prog w K mg base "ways_to_follow" 1 ["left","part","length"] bf4:=i9 X G a14 F14 b14 (bc3 F14 B);have c_count_joins:o5 l.prog w K mg base "count_joins" 3 ["length","many","m"] bn1:=i9 X G a15 F15 b15 (bn2 F15 B c_right_numbers c_ways_to_follow);have c_how_many_roots:o5 l.prog w K mg base "how_many_roots" 4 ["p","m"] aj7:=i9 X G a16 F16 b16 (bc4 F16 B c_must_be_turn c_must_be_from_one c_sort_by_length c_walk_rings c_count_joins);have c_chains_of:o5 l.prog w K mg base "chains_of" 2 ["rings","part"] au8:=i9 X G a17 F17 b17 (ca5 F17 B c_picks_of);have c_ways_to_join:o5 l.prog w K mg base "ways_to_join" 43 ["rings","right","m"] (ay9 40):=i9 X G a18 F18 b18 (i5 F18 B c_chains_of c_join_rings (i9 X G a18 F18 b18 (i5 F18 B c_chains_of c_join_rings (i9 X G a18 F18 b18 (i5 F18 B c_chains_of c_join_rings (i9 X G a18 F18 b18 (i5 F18 B c_chains_of c_join_rings (i9 X G a18 F18 b18 (i5 F18 B c_chains_of c_join_rings (i9 X G a18 F18 b18 (i5 F18 B c_chains_of c_join_rings (i9 X G a18 F18 b18 (i5 F18 B c_chains_of c_join_rings (i9 X G a18 F18 b18 (i5 F18 B c_chains_of c_join_rings (i9 X G a18 F18 b18 (i5 F18 B c_chains_of c_join_rings (i9 X G a18 F18 b18 (i5 F18 B c_chains_of c_join_rings (i9 X G a18 F18 b18 (i5 F18 B c_chains_of c_join_rings (i9 X G a18 F18 b18 (i5 F18 B c_chains_of c_join_rings (i9 X G a18 F18 b18 (i5 F18 B c_chains_of c_join_rings (i9 X G a18 F18 b18 (i5 F18 B c_chains_of c_join_rings (i9 X G a18 F18 b18 (i5 F18 B c_chains_of c_join_rings (i9 X G a18 F18 b18 (i5 F18 B c_chains_of c_join_rings (i9 X G a18 F18 b18 (i5 F18 B c_chains_of c_join_rings (i9 X G a18 F18 b18 (i5 F18 B c_chains_of c_join_rings (i9 X G a18 F18 b18 (i5 F18 B c_chains_of c_join_rings (i9 X G a18 F18 b18 (i5 F18 B c_chains_of c_join_rings (i9 X G a18 F18 b18 (i5 F18 B c_chains_of c_join_rings (i9 X G a18 F18 b18 (i5 F18 B c_chains_of c_join_rings (i9 X G a18 F18 b18 (i5 F18 B c_chains_of c_join_rings (i9 X G a18 F18 b18 (i5 F18 B c_chains_of c_join_rings (i9 X G a18 F18 b18 (i5 F18 B c_chains_of c_join_rings (i9 X G a18 F18 b18 (i5 F18 B c_chains_of c_join_rings (i9 X G a18 F18 b18 (i5 F18 B c_chains_of c_join_rings (i9 X G a18 F18 b18 (i5 F18 B c_chains_of c_join_rings (i9 X G a18 F18 b18 (i5 F18 B c_chains_of c_join_rings (i9 X G a18 F18 b18 (i5 F18 B c_chains_of c_join_rings (i9 X G a18 F18 b18 (i5 F18 B c_chains_of c_join_rings (i9 X G a18 F18 b18 (i5 F18 B c_chains_of c_join_rings (i9 X G a18 F18 b18 (i5 F18 B c_chains_of c_join_rings (i9 X G a18 F18 b18 (i5 F18 B c_chains_of c_join_rings (i9 X G a18 F18 b18 (i5 F18 B c_chains_of c_join_rings (i9 X G a18 F18 b18 (i5 F18 B c_chains_of c_join_rings (i9 X G a18 F18 b18 (i5 F18 B c_chains_of c_join_rings (i9 X G a18 F18 b18 (i5 F18 B c_chains_of c_join_rings (i9 X G a18 F18 b18 (i5 F18 B c_chains_of c_join_rings (i9 X G a18 F18 b18 (i5 F18 B c_chains_of c_join_rings (i9 X G a18 F18 b18 (bj9 F18 B c_chains_of c_join_rings c_send_along)) c_send_along)) c_send_along)) c_send_along)) c_send_along)) c_send_along)) c_send_along)) c_send_along)) c_send_along)) c_send_along)) c_send_along)) c_send_along)) c_send_along)) c_send_along)) c_send_along)) c_send_along)) c_send_along)) c_send_along)) c_send_along)) c_send_along)) c_send_along)) c_send_along)) c_send_along)) c_send_along)) c_send_along)) c_send_along)) c_send_along)) c_send_along)) c_send_along)) c_send_along)) c_send_along)) c_send_along)) c_send_along)) c_send_along)) c_send_along)) c_send_along)) c_send_along)) c_send_along)) c_send_along)) c_send_along)) c_send_along)
 have cx_all_roots:ay0 l.prog w K mg base "all_roots" 44 ["p","m"] (fun vs H Q E=>bk1 vs H Q E\/(cc2 q_TooMany) vs H Q E):=cg4 X G a19 F19 b19 (o8.or (o8.lift (az3 F19 B c_how_many_roots c_must_be_few c_sort_by_length c_walk_rings c_ways_to_join c_right_numbers c_lay_every_way)) (bt3 F19 c_how_many_roots cx_must_be_few));have c_all_roots:o5 l.prog w K mg base "all_roots" 44 ["p","m"] bk1:=i9 X G a19 F19 b19 (az3 F19 B c_how_many_roots c_must_be_few c_sort_by_length c_walk_rings c_ways_to_join c_right_numbers c_lay_every_way);have c_law_cell_at:o5 l.prog w K mg base "_law_cell_at" 1 ["script","k"] (bz2 K):=i9 X G a20 F20 b20 (dh9 F20 B);have c_law_stir:o5 l.prog w K mg base "_law_stir" 1 ["cell","k"] bz3:=i9 X G a21 F21 b21 (di0 F21);have c_law_deck:o5 l.prog w K mg base "_law_deck" 2 ["cell","many"] bz5:=i9 X G a22 F22 b22 (di1 F22 B c_law_stir);have c_law_next:o5 l.prog w K mg base "_law_next" 1 ["deck"] ap6:=i9 X G a23 F23 b23 (di2 F23);have c_law_turn:o5 l.prog w K mg base "_law_turn" 2 ["deck","many"] bn0:=i9 X G a24 F24 b24 (da2 F24 B c_law_next);have c_law_m:o5 l.prog w K mg base "_law_m" 2 ["deck"] spM:=i9 X G a25 F25 b25 (dz5 F25 B c_law_next);have c_law_rounds:o5 l.prog w K mg base "_law_rounds" 1 ["p"] aa3:=i9 X G a26 F26 b26 (bs9 F26 B);have c_law_power:o5 l.prog w K mg base "_law_power" 2 ["p","m"] ah3:=i9 X G a27 F27 b27 (bz6 F27 B c_law_rounds);have c_law_counts:o5 l.prog w K mg base "_law_counts" 2 ["p"] bf1:=i9 X G a28 F28 b28 (bt0 F28 B c_law_rounds);have c_law_is_turn:o5 l.prog w K mg base "_law_is_turn" 1 ["found","many"] am0:=i9 X G a29 F29 b29 (bo2 F29 B);have c_law_rights:o5 l.prog w K mg base "_law_rights" 1 ["l","m","most"] ay7:=i9 X G a30 F30 b30 (bt1 F30 B);have c_law_woven:o5 l.prog w K mg base "_law_woven" 1 ["l","many","rights"] bn3:=i9 X G a31 F31 b31 (ca1 F31 B);have c_law_how_many:o5 l.prog w K mg base "_law_how_many" 3 ["p","m"] aj7:=i9 X G a32 F32 b32 (bj7 F32 c_law_counts c_law_woven c_law_rights);have c_law_every:o5 l.prog w K mg base "_law_every" 1 ["many"] bo4:=i9 X G a33 F33 b33 (cb8 F33 B);have c_law_roots:o5 l.prog w K mg base "_law_roots" 3 ["p","m"] bg8:=i9 X G a34 F34 b34 (cc0 F34 B c_law_every c_law_power);have c_law_word:o5 l.prog w K mg base "_law_word" 1 ["caught"] (bz7 q_NoTurn q_NoFit q_NoRounds q_NoNumber q_NoRoot q_TooMany q_NoKind q_NoText q_NoName q_NoRow):=i9 X G a35 F35 b35 (cd6 F35 B ER);have c_law_asked:o5 l.prog w K mg base "_law_asked" 45 ["p","m"] bc2:=i9 X G a36 F36 b36 (cc3 F36 cx_all_roots c_law_word ER);have c_law_told_right:o5 l.prog w K mg base "_law_told_right" 4 ["found","p","m","many"] bg9:=i9 X G a37 F37 b37 (bc6 F37 B c_law_is_turn c_law_power c_law_roots);have c_law_right:o5 l.prog w K mg base "_law_right" 46 ["p","m"] (ba0 K):=i9 X G a38 F38 b38 (cc4 F38 B c_law_how_many c_law_asked c_law_told_right);have c_law_two_thousand:o5 l.prog w K mg base "_law_two_thousand" 46 ["deck","more"] cm1:=i9 X G a39 F39 b39 (aw2 F39 B c_law_next c_law_asked c_law_is_turn c_law_power);exact dr0 F40 B c_law_deck c_law_cell_at c_law_next c_law_two_thousand c_law_m c_law_turn c_law_power c_law_right
theorem eb6 {l:PySem.W.OpenLaw}{q:Program}{loose:List Str}{XP:(Str->Option Value)->Heap->Prop}{YP:World->Heap->Prop}{d:DefRec}{K:Params->PySem.W.Frag}(hn:l.most=some 63)(hdf:d.params.defaults=[])
   (hY:∀(w:World) (h:Heap),YP w h->(K w.params).In h)
   (F:∀(w:World) (mg:Str->Option Value) (fa:Addr) (h:Heap),(K w.params).In h->h.Ns mainGlobals mg->mg d.name=some (.ref fa)->
     ∃fd:FuncData,(∀(s:Shared) (u:Value),BindsTo s fd ⟨[u],[]⟩ [("script",u)])/\∀base:Heap,(K w.params).In base->base.Ns mainGlobals mg->o8 l.prog w (K w.params) mg base G2 47 fa fd ["script"] (bu1 (K w.params))):
   PySem.W.WalkO q loose XP YP l.row.toRowW d [] (fun f vs=>PySem.call f vs):=
 L2.ea1 (n:=63) (k:=47) (x:="script") (CX:=fun _=>G2) (sp:=fun w=>bu1 (K w.params)) hn (by decide) hdf ⟨rfl,by decide,by decide,rfl⟩ hY F (fun _ _ a ns hl _ hS=>⟨a,ns,rfl,hS,hl,fun _=>rfl⟩) fun _ _ _ _ _ z=>z
end My
end
def PySem.W.Fast.tw13429992087137581948 : Unit := ()
def PySem.W.Fast.tw9053718820459257322 : Unit := ()
def PySem.W.Fast.tw5485642631871149339 : Unit := ()
def PySem.W.Fast.tw6255714521238428914 : Unit := ()
def PySem.W.Fast.tw8437093278331902989 : Unit := ()
def PySem.W.Fast.tw2203427791107352263 : Unit := ()
def PySem.W.Fast.tw534332376106293807 : Unit := ()
def PySem.W.Fast.tw6517694816715022958 : Unit := ()
def PySem.W.Fast.tw5911095366130115836 : Unit := ()
def PySem.W.Fast.tw15734212361063368028 : Unit := ()
def PySem.W.Fast.tw7400647104446608199 : Unit := ()
def PySem.W.Fast.tw17742506425564948452 : Unit := ()
def PySem.W.Fast.tw3177653242110447916 : Unit := ()
def PySem.W.Fast.tw14304398185676193470 : Unit := ()
def PySem.W.Fast.tw11272173672406496368 : Unit := ()
def PySem.W.Fast.tw17104057733877865462 : Unit := ()
abbrev PySem.W.Fast.tw9395668903868645514:PySem.Program:=PySem.Challenge.pw_turnroots_k19_all_roots_told
theorem PySem.W.Fast.te9395668903868645514:PySem.Challenge.pw_turnroots_k19_all_roots_told=PySem.W.Fast.tw9395668903868645514:=rfl
abbrev PySem.W.Fast.tw90343872475197607:Type:=PySem.Params
theorem PySem.W.Fast.te90343872475197607:PySem.Params=PySem.W.Fast.tw90343872475197607:=rfl
open PySem PySem.W PyProof.Rows L2
set_option maxRecDepth 100000 in
set_option maxHeartbeats 0 in
theorem PySem.Challenge.cw_turnroots_k19_all_roots_told_holds : PySem.Challenge.rw_turnroots_k19_all_roots_told.Holds := by
  w_on; o_law; k_head; (case hw => w_witness2)
  k_fill
  refine My.eb6 (l := PySem.Challenge.rw_turnroots_k19_all_roots_told) rfl rfl (fun w h Y => PySem.W.kIn_of Y) ?F
  case F =>
    intro w mg fa h KX G hmg
    refine' My.eb5 KX G hmg ?_ ?_ ?_ ?_ ?_ ?_ ?_ ?_ ?_ ?_ ?_ ?_ ?_ ?_ ?_ ?_ ?_ ?_ ?_ ?_ ?_ ?_ ?_ ?_ ?_ ?_ ?_ ?_ ?_ ?_ ?_ ?_ ?_ ?_ ?_ ?_ ?_ ?_ ?_ ?_ ?_ ?_ ?_ ?_ ?_ ?_ ?_ ?_ ?_ ?_ ?_ ?_
    all_goals first
      | k_is
      | (refine' du1 ?a ?l ?c ?k; (case a => k_is); (case l => k_is); (case c => k_is); (case k => k_is))
      | ((repeat (refine' And.intro (ClF.mk ?n ?e ?g ?h ?c ?b ?o ?i ?t ?u ?v ?s) ?_; (case n => k_is); (case e => k_exc); (case g => k_is); (case h => k_is); (case c => k_is); (case b => k_is); (case o => k_is); (case i => k_is); (case t => k_is); (case u => k_is); (case v => k_is); (case s => k_is))); exact trivial)
      | ((repeat (refine' And.intro ?n ?_; (case n => k_is))); exact trivial)
      | ((repeat (refine' And.intro ?zp ?_; (case zp => ((repeat (refine' And.intro ?n ?_; (case n => k_is))); exact trivial)))); exact trivial)
      | skip
#print axioms PySem.Challenge.cw_turnroots_k19_all_roots_told_holds
