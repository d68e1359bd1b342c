import PyProof.Rows.All
import Wide.All
import OpenK.AllK
import Wide.FinOn
import Lean
import PyProof.EqAt
import PyProof.EqKinds
import PyProof.TupleCall
import PyProof.NeKinds
import PyProof.EnumMake
import PyProof.Rows.SeqMore2
import PyProof.ZipIter
import PyProof.Rows.SortRev
import PyProof.Rows.SortWalk
import PyProof.Rows.CallKwBuiltin
import PyProof.DictIter
import PyProof.DictWalks
import PyProof.MeetsDict
import PyProof.Conv_int_bool
import PyProof.EqAt
import PyProof.CollectWalk
import PyProof.Rows.SortShell
import PyProof.Rows.Range3
import PyProof.CallFns
import PyProof.StrBlockH
import PySem.Challenge.RW_turnroots_k21_refused_in_order
open List renaming length_map→ed2, getElem?_eq_some_iff→ed3, getElem?_eq_getElem→ed4, length_append→ed6, mem_cons_self→ed7, map_append→ed8, getElem?_map→ed9, mem_cons_of_mem→ee0, mem_of_getElem?→ee1, mem_append→ee2, mem_singleton→ee3, getD_eq_getElem?_getD→ee4, mem_map→ee5, size_toArray→ee7, mem_cons→ee8, length_take→ee9, getElem?_eq_none→ef0, mem_append_right→ef1, append_assoc→ef2, replicate→ef4, getElem?_append_right→ef6, getElem?_append_left→ef8, nodup_iff_pairwise_ne→ef9, append_nil→eg0, length_cons→eg3, take_length→eg4, length_drop→eg5, mem_iff_getElem?→eg6, pairwise_iff_getElem→eg8, getElem_mem→eg9, map_cons→eh0, length_range→eh2, flatten_cons→eh4, mem_append_left→eh8, range→ei1, mem_range→ei2, mem_of_mem_take→ei4, nodup_cons→ei5, getElem?_take_of_lt→ei6, take_append_drop→ei8, ext_getElem?→ej2, map_map→ej5, nodup_nil→ej6, length_singleton→ej7, lookup_cons→ej8, map_congr_left→ej9, getElem?_range→ek0, mem_flatten→ek1, flatMap_cons→ek3, flatten_append→ek5, perm_append_comm→ek6, nodup_append→ek7, mem_flatMap→el3, flatten_singleton→el4, drop_eq_getElem_cons→el5, all_eq_true→el8, length_eq_zero_iff→em4, pairwise_map→em6, filterMap_cons→em7, replicate_succ→em8, take_of_length_le→en0, flatMap_append→en1, length_replicate→en5, mem_of_mem_drop→en7, mem_filter→en8, length_set→en9, filter_cons_of_pos→eo2, filter_cons_of_neg→eo3, length_reverse→eo4, drop_eq_nil_of_le→eo6, mem_reverse→eo7, take_zero→eo8, reverse_append→ep1, flatMap_nil→ep3, map_nil→ep4, pairwise_singleton→ep5, getElem?_drop→ep7, filter_append→ep9, getElem?_set_self→eq0, find?_cons→eq2, range_succ→eq4, sum_append→eq6, pairwise_reverse→eq9, length_filter_le→er0, flatten→er2, getElem?_set_ne→er3, map_id→er8, filter_nil→er9, getElem?_take→es4, map_set→es6, reverse_perm→es8, pairwise_lt_range→es9, eraseIdxIfInBounds_toArray→et1, countP_cons→et2, getElem?_reverse→et3, not_mem_nil→et4, length_dropLast→et6, countP_eq_length_filter→eu2, dropLast_concat_getLast→eu4, mem_filterMap→eu5, pairwise_cons→eu6, all_cons→ev5, any_cons→ev6, extract_eq_take_drop→ew0, sum_cons→ew1, map_take→ew2, foldl_append→ew3, getElem?_replicate→ew7, getElem?_cons_zero→ew8, getElem?_cons_succ→ew9, of_mem_zip→ex3, length_nil→ex4, length→ex9, drop_zero→ey3, map_drop→ey4
open Nat renaming le_refl→ed5, le_trans→ee6, zero_le→ef5, lt_of_le_of_lt→eg1, lt_of_lt_of_le→eg2, le_of_lt→eh1, ne_of_lt→eh5, gcd→eh9, zero_mul→ei3, le_mul_of_pos_right→ej0, mul_le_mul_right→ej3, mul_comm→ej4, pow_le_pow_right→ek4, mul_pos→ek8, mul_assoc→ek9, add_zero→el0, mod_eq_of_lt→el2, mul_le_mul→el6, succ_mul→em0, add_comm→em1, mul_zero→em3, mul_one→em5, sub_self→en3, lt_irrefl→en4, mod_lt→en6, zero_add→eo0, mul_div_cancel_left→eo1, pow_le_pow_left→eo5, eq_of_mul_eq_mul_left→eo9, add_mul→ep2, pow_succ→ep6, eq_zero_or_pos→ep8, le_mul_of_pos_left→eq5, le_succ→eq7, le_of_eq→er1, add_le_add_left→er5, add_assoc→er6, add_mul_mod_self_left→er7, gcd_dvd_right→es7, succ_le_succ→et0, min_eq_left→et8, pow_zero→et9, mul_le_mul_left→eu1, lt_or_eq_of_le→eu7, add_sub_cancel→eu8, sub_add_cancel→eu9, mul_add→ev1, pow_mul→ev2, eq_of_mul_eq_mul_right→ev3, lt_succ_of_lt→ev8, gcd_pos_of_pos_right→ew4, gcd_mul_left→ew5, lt_or_ge→ex1, gcd_comm→ex2, div_add_mod→ex5, one_mul→ey0, Coprime→ey1, pow_add→ey2
open Bool renaming false_ne_true→ef3, and_eq_true→eg7, false_eq_true→el7, eq_iff_iff→eq1, or_eq_true→et7
open Array renaming length_toList→ef7, toList_append→eh7, getElem?_toList→ei0, toList→ei9, perm_iff_toList_perm→en2, toList_push→ep0, toList_reverse→er4, getElem?_eq_getElem→ev9, toList_map→ew6
open Int renaming natCast_mul→eh3, emod_nonneg→eh6, emod_lt_of_pos→ei7, toNat_natCast→ej1, natAbs_natCast→el1, natCast_emod→el9, eq_ofNat_of_zero_le→em2, toNat→eq8, toNat_of_nonneg→eu0, fdiv_eq_ediv_of_nonneg→ev0, natCast_add→ex6, natCast_sub→ex7, mul_one→ex8
open Option renaming map_eq_some_iff→em9, map_some→eq3, isSome_iff_exists→es0, bind_eq_some_iff→es5, isSome_map→ev7
set_option Elab.async false
set_option linter.all false
set_option maxRecDepth 100000
set_option maxHeartbeats 8000000
section
local macro_rules|`(tactic|omega)=>`(tactic|lia)
local macro_rules|`(tactic|trivial)=>`(tactic|first|exact .inl rfl|exact .inr rfl|assumption)
local macro_rules|`(tactic|rfl')=>`(tactic|exact ⟨rfl,rfl,rfl,by decide+kernel,rfl,by decide+kernel,by decide+kernel⟩)
namespace L2
open PySem PySem.Spec PyProof.Rows
abbrev q9:=Sum Int Str
def bb1:q9->Value->Bool
 | .inl k,v=>Value.isInt k v
 | .inr x,v=>Value.isStrOf x v
def dy7 (w:World):q9->Int
 | .inl k=>hashInt k
 | .inr x=>hashStr w x
theorem M7:∀{k:q9} {v:Value},bb1 k v=true->(∃i t,k=Sum.inl i/\v=Value.int i t)\/(∃x t,k=Sum.inr x/\v=Value.str x t)
 | .inl i,v,h=>by
   obtain ⟨t,e⟩:=Value.isInt_shape (k:=i) (v:=v) h;exact .inl ⟨i,t,rfl,e⟩
 | .inr x,v,h=>by
   obtain ⟨t,e⟩:=Value.isStrOf_shape (x:=x) (v:=v) h;exact .inr ⟨x,t,rfl,e⟩
theorem co1 (i:Int)(t:Tok):bb1 (.inl i) (.int i t)=true:=by simp [bb1,Value.isInt]
theorem co2 (x:Str)(t:Tok):bb1 (.inr x) (.str x t)=true:=by simp [bb1,Value.isStrOf]
theorem dn2 (a b:Int):decide ((Sum.inl a:q9)=Sum.inl b)=(a==b):=by
 by_cases e:a=b
 · subst e;simp
 · have h:¬(Sum.inl a:q9)=Sum.inl b:=fun q=>e (Sum.inl.inj q)
   rw[decide_eq_false h];exact (beq_eq_false_iff_ne.mpr e).symm
theorem dn3 (a b:Str):decide ((Sum.inr a:q9)=Sum.inr b)=decide (a=b):=by
 by_cases e:a=b
 · subst e;simp
 · have h:¬(Sum.inr a:q9)=Sum.inr b:=fun q=>e (Sum.inr.inj q)
   rw[decide_eq_false h,decide_eq_false e]
theorem dn4 (a:Int)(b:Str):decide ((Sum.inl a:q9)=Sum.inr b)=false:=decide_eq_false (fun q=>nomatch q)
theorem dn5 (a:Str)(b:Int):decide ((Sum.inr a:q9)=Sum.inl b)=false:=decide_eq_false (fun q=>nomatch q)
def C8 (prog:Program)(w:World):PySem.KeyKind prog w q9 where
 is:=bb1
 hash:=dy7 w
 inj:=fun v a b ha hb=>by
   rcases M7 ha with ⟨i,t,rfl,rfl⟩|⟨x,t,rfl,rfl⟩
   · rcases M7 hb with ⟨j,u,rfl,e⟩|⟨y,u,rfl,e⟩
     · injection e with e1 _;rw[e1]
     · exact nomatch e
   · rcases M7 hb with ⟨j,u,rfl,e⟩|⟨y,u,rfl,e⟩
     · exact nomatch e
     · injection e with e1 _;rw[e1]
 byValue:=fun k v h=>by
   rcases M7 h with ⟨i,t,rfl,rfl⟩|⟨x,t,rfl,rfl⟩<;>rfl
 pyHash:=fun hv h=>by
   rcases M7 hv with ⟨i,t,rfl,rfl⟩|⟨x,t,rfl,rfl⟩
   · exact wpAny_pyHash_int h
   · exact wpAny_pyHash_str h
 eqBool:=fun hu hv h=>by
   rcases M7 hu with ⟨i,t,rfl,rfl⟩|⟨x,t,rfl,rfl⟩
   · rcases M7 hv with ⟨j,u,rfl,rfl⟩|⟨y,u,rfl,rfl⟩
     · rw[dn2] at h;exact wpAny_eqBool_int h
     · rw[dn4] at h;exact SeqAt.EqAt.int_str i t y u _ _ _ _ h
   · rcases M7 hv with ⟨j,u,rfl,rfl⟩|⟨y,u,rfl,rfl⟩
     · rw[dn5] at h;exact SeqAt.EqAt.str_int x t j u _ _ _ _ h
     · rw[dn3] at h;exact wpAny_eqBool_str h
 «strs»:=fun k x t v h=>by
   rcases M7 h with ⟨i,u,rfl,e⟩|⟨y,u,rfl,e⟩
   · exact nomatch e
   · injection e with e1 _
     subst e1
     cases v<;>rfl
theorem bd0 (prog:Program)(w:World)(i:Int)(t:Tok):(C8 prog w).is (.inl i) (.int i t)=true:=co1 i t
theorem bd1 (prog:Program)(w:World)(x:Str)(t:Tok):(C8 prog w).is (.inr x) (.str x t)=true:=co2 x t
end L2
namespace L2
open PySem PySem.Spec PyProof.Rows
inductive V where
 |non|bl (b:Bool)|int (i:Int)|str (x:Str)|byt (b:Array UInt8)|flt (b:UInt64)|ref (a:Addr)|ty (n:String)
 deriving DecidableEq
def o9:V->Value->Prop
 | .non,u=>u=Value.none
 | .bl b,u=>u=Value.bool b
 | .int i,u=>∃t,u=Value.int i t
 | .str x,u=>∃t,u=Value.str x t
 | .byt b,u=>∃t,u=Value.bytes b t
 | .flt b,u=>∃t,u=Value.float b t
 | .ref a,u=>u=Value.ref a
 | .ty n,u=>u=Value.type n
abbrev n6:List V->List Value->Prop:=Paired o9
theorem n6.length {xs:List V}{us:List Value}(r:n6 xs us):xs.length=us.length:=Paired.length r
theorem n6.get:∀{xs:List V} {us:List Value} {i:Nat} {x:V},n6 xs us->xs[i]? =some x->∃u,us[i]? =some u/\o9 x u
 |_,_,_,_,.nil,e=>by simp at e
 |_,_,0,_,.cons r _,e=>by simp at e;subst e;exact ⟨_,rfl,r⟩
 |_,_,i+1,x,.cons _ t,e=>by
  obtain ⟨u,h1,h2⟩:=n6.get (i:=i) (x:=x) t (by simpa using e);exact ⟨u,by simpa using h1,h2⟩
theorem n6.set {x:V}{u:Value}(r:o9 x u):∀{xs:List V} {us:List Value} (i:Nat),n6 xs us->n6 (xs.set i x) (us.set i u)
 |_,_,_,.nil=> .nil
 |_,_,0,.cons _ t=> .cons r t
 |_,_,i+1,.cons q t=> .cons q (n6.set r i t)
theorem n6.append:∀{xs ys:List V} {us ws:List Value},n6 xs us->n6 ys ws->n6 (xs++ys) (us++ws)
 |_,_,_,_,.nil,s=>s
 |_,_,_,_,.cons r t,s=> .cons r (n6.append t s)
theorem n6.take:∀{xs:List V} {us:List Value} (n:Nat),n6 xs us->n6 (xs.take n) (us.take n)
 |_,_,0,_=> .nil
 |_,_,_+1,.nil=> .nil
 |_,_,n+1,.cons r t=> .cons r (n6.take n t)
theorem n6.drop:∀{xs:List V} {us:List Value} (n:Nat),n6 xs us->n6 (xs.drop n) (us.drop n)
 |_,_,0,r=>r
 |_,_,_+1,.nil=> .nil
 |_,_,n+1,.cons _ t=>n6.drop n t
def ae0:Option V->Option Value->Prop
 |some v,some u=>o9 v u
 |none,none=>True
 |_,_=>False
def KV {κ:Type}:List (κ×V)->List (κ×Value)->Prop:=Paired fun (p:κ×V) (q:κ×Value)=>p.1=q.1/\o9 p.2 q.2
def kV:q9->V
 | .inl i=> .int i
 | .inr x=> .str x
inductive HO where
 |lst (xs:List V)
 |tup (xs:List V)
 |dK (kvs:List (q9×V))|dT (kvs:List (List q9×V))
 |set (S:Int->Bool) (n:Nat)
 |ins (C dx:Addr) (fs:List (Str×V))
 |own (x:Addr)
 |xd (fs:List (Str×V))
 |met (f x:Addr)
 |rng (lo hi:Int)
 |frz (o:Obj) (u:HO)
 |tbl (ps:Array Value)
 |ext (φ:Heap->Prop)
abbrev Hp:=Addr->Option HO
def c9 (H:Hp)(a:Addr)(o:HO):Hp:=fun b=>if b=a then some o else H b
theorem c7 {H:Hp}{a:Addr}{o:HO}:c9 H a o a=some o:=by unfold c9;rw[if_pos rfl]
theorem g8 {H:Hp}{a b:Addr}{o:HO}(h:b≠a):c9 H a o b=H b:=by unfold c9;rw[if_neg h]
theorem dg9 {H:Hp}{a:Addr}{o u:HO}:c9 (c9 H a o) a u=c9 H a u:=by
 funext b;unfold c9;split<;>rfl
theorem ck6 {H:Hp}{a b:Addr}{o u:HO}(h:H a=some o)(h':H b=some u)(d:o≠u):a≠b:=by
 intro e;subst e;rw[h] at h';exact d (Option.some.inj h')
theorem g7 {H:Hp}{a b:Addr}{o:HO}(h:H a=some o)(h':H b=none):a≠b:=by
 intro e;subst e;rw[h] at h';cases h'
section
variable (P:Program) (w:World)
def y9 (H:Hp)(h:Heap)(a:Addr):HO->Prop
 | .lst xs=>xs.length<=sizeLine/\∃(its:List Value) (n:Nat),n6 xs its/\h.get? a=some {cls:= .type "list",data:= .seq its.toArray n}
 | .tup xs=>xs.length<=sizeLine/\∃its:List Value,n6 xs its/\IsTup h a its.toArray
 | .dK kvs=>kvs.length<=sizeLine/\(a==sysModules)=false/\∃vs,KV kvs vs/\h.DictOf (C8 P w) a vs
 | .dT kvs=>kvs.length<=sizeLine/\(a==sysModules)=false/\∃xs:List (List q9×Addr×Value),
     Paired (fun (p:List q9×V) (q:List q9×Addr×Value)=>p.1=q.1/\H q.2.1=some (.tup (p.1.map kV))/\o9 p.2 q.2.2) kvs xs/\
     ∃o es ep,h.get? a=some o/\o.ExactDict/\o.data= .dict es ep/\es.toList=xs.map (entryOfKey (tupleKind (C8 P w)))/\(xs.map (·.1)).Nodup
 | .set S n=>h.SetOf (intKind P w) a S n
 | .ins C dx fs=>H dx=some (.own a)/\fs.length<=1000/\dx≠a/\h.get? a=some (PySem.W.instObj C dx)/\
     ∃mA,h.Ns1 dx mA/\(∀f,ae0 (fs.lookup f) (mA f))/\PySem.Within mA (fs.map (·.1))
 | .own _=>∃o,h.get? a=some o
 | .xd fs=>∃mA,h.Ns1 a mA/\∀f,ae0 (fs.lookup f) (mA f)
 | .rng lo hi=>∃t u v,h.get? a=some {cls:= .type "range",data:= .fields #[.int lo t,.int hi u,.int 1 v]}
 | .frz o u=>h.get? a=some o/\y9 H h a u
 | .tbl ps=>h.get? a=some {cls:= .none,data:= .fields ps}
 | .met f x=>h.get? a=some (PySem.W.methodObj (.ref f) (.ref x))
 | .ext φ=>φ h/\(∃o,h.get? a=some o)/\∀h1 h2:Heap,φ h1->(∀o,h1.get? a=some o->h2.get? a=some o)->φ h2
def K9 (H:Hp)(h:Heap):Prop:=∀a o,H a=some o->y9 P w H h a o
end
section
variable {P:Program} {w:World} {H H':Hp} {h h':Heap} {a:Addr} {o:HO}
theorem y9.lt (x:y9 P w H h a o):a < h.objs.size:=by
 cases o with
 |lst xs=>obtain ⟨_,_,_,_,e⟩:=x;exact Heap.lt_size e
 |tup xs=>obtain ⟨_,_,_,p⟩:=x;exact p.lt
 |dK kvs=>obtain ⟨_,_,_,_,o,_,_,e,_⟩:=x;exact Heap.lt_size e
 |dT kvs=>obtain ⟨_,_,_,_,o,_,_,e,_⟩:=x;exact Heap.lt_size e
 |set S n=>obtain ⟨o,_,_,_,e,_⟩:=x;exact Heap.lt_size e
 |ins C dx fs=>obtain ⟨_,_,_,e,_⟩:=x;exact Heap.lt_size e
 |own y=>obtain ⟨_,e⟩:=x;exact Heap.lt_size e
 |xd fs=>obtain ⟨_,⟨_,_,_,e,_⟩,_⟩:=x;exact Heap.lt_size e
 |rng lo hi=>obtain ⟨_,_,_,e⟩:=x;exact Heap.lt_size e
 |frz ob u=>obtain ⟨e,_⟩:=x;exact Heap.lt_size e
 |tbl ps=>exact Heap.lt_size (show h.get? a=some _ from x)
 |met f y=>exact Heap.lt_size (show h.get? a=some _ from x)
 |ext φ=>obtain ⟨_,⟨_,e⟩,_⟩:=x;exact Heap.lt_size e
theorem Paired.mapP {α β:Type}{F G:α->β->Prop}:∀{l₁:List α} {l₂:List β},Paired F l₁ l₂->(∀a b,F a b->G a b)->Paired G l₁ l₂
 |_,_,.nil,_=> .nil
 |_,_,.cons r t,f=> .cons (f _ _ r) (Paired.mapP t f)
theorem y9.stay (x:y9 P w H h a o)(k:∀b u,(b=a\/H b=some (.own a))->h.get? b=some u->h'.get? b=some u)
   (ho:∀b,H b=some (.own a)->H' b=some (.own a)) (ht:∀b xs,H b=some (.tup xs)->H' b=some (.tup xs)):y9 P w H' h' a o:=by
 induction o with
 |lst xs=>obtain ⟨z,its,n,r,e⟩:=x;exact ⟨z,its,n,r,k _ _ (.inl rfl) e⟩
 |tup xs=>obtain ⟨z,its,r,ob,e,c⟩:=x;exact ⟨z,its,r,ob,k _ _ (.inl rfl) e,c⟩
 |dK kvs=>obtain ⟨z,y,vs,r,ob,es,ep,e,c⟩:=x;exact ⟨z,y,vs,r,ob,es,ep,k _ _ (.inl rfl) e,c⟩
 |dT kvs=>
  obtain ⟨z,y,xs,r,ob,es,ep,e,c⟩:=x;exact ⟨z,y,xs,Paired.mapP r fun p q z=>⟨z.1,ht _ _ z.2.1,z.2.2⟩,ob,es,ep,k _ _ (.inl rfl) e,c⟩
 |set S n=>obtain ⟨ob,es,ep,t,e,c⟩:=x;exact ⟨ob,es,ep,t,k _ _ (.inl rfl) e,c⟩
 |ins C dx fs=>
  obtain ⟨d,z,ne,e,mA,⟨od,es,ep,e2,c⟩,r⟩:=x;exact ⟨ho _ d,z,ne,k _ _ (.inl rfl) e,mA,⟨od,es,ep,k _ _ (.inr d) e2,c⟩,r⟩
 |own y=>obtain ⟨ob,e⟩:=x;exact ⟨ob,k _ _ (.inl rfl) e⟩
 |xd fs=>obtain ⟨mA,⟨od,es,ep,e,c⟩,r⟩:=x;exact ⟨mA,⟨od,es,ep,k _ _ (.inl rfl) e,c⟩,r⟩
 |rng lo hi=>obtain ⟨t,u,v,e⟩:=x;exact ⟨t,u,v,k _ _ (.inl rfl) e⟩
 |frz ob u ih=>obtain ⟨e,q⟩:=x;exact ⟨k _ _ (.inl rfl) e,ih q⟩
 |tbl ps=>
  have e:h.get? a=some {cls:= .none,data:= .fields ps}:=x;show h'.get? a=some {cls:= .none,data:= .fields ps};exact k a _ (.inl rfl) e
 |met f y=>
  have e:h.get? a=some (PySem.W.methodObj (.ref f) (.ref y)):=x;show h'.get? a=some (PySem.W.methodObj (.ref f) (.ref y));exact k a _ (.inl rfl) e
 |ext φ=>obtain ⟨p,⟨o,e⟩,st⟩:=x;exact ⟨st _ _ p fun o q=>k _ _ (.inl rfl) q,⟨o,k _ _ (.inl rfl) e⟩,st⟩
theorem K9.lt (x:K9 P w H h)(e:H a=some o):a < h.objs.size:=(x a o e).lt
theorem K9.fresh (x:K9 P w H h)(e:h.objs.size<=a):H a=none:=by
 cases q:H a with
 |none=>rfl
 |some u=>exact absurd (eg2 (x.lt q) e) (en4 _)
theorem K9.kept (x:K9 P w H h)(k:∀b u,h.get? b=some u->h'.get? b=some u):K9 P w H h':=fun a o e=>
 (x a o e).stay (fun b u _ q=>k b u q) (fun _ q=>q) fun _ _ q=>q
theorem K9.laid (x:K9 P w H h)(k:∀b u,h.get? b=some u->h'.get? b=some u)(hp:h.objs.size<=a)(new:y9 P w (c9 H a o) h' a o):K9 P w (c9 H a o) h':=fun b u e=>by
 have hn:=x.fresh hp
 by_cases hb:b=a
 · subst hb;rw[c7] at e;cases e;exact new
 · rw[g8 hb] at e
   exact (x b u e).stay (fun c v _ q=>k c v q) (fun c q=>by rw[g8 (g7 q hn)];exact q) fun c xs q=>by rw[g8 (g7 q hn)];exact q
end
def Rd (H:Hp)(a:Addr)(u:HO):Prop:=H a=some u\/∃o,H a=some (.frz o u)
theorem Rd.ok {P:Program}{w:World}{H:Hp}{h:Heap}{a:Addr}{u:HO}(r:Rd H a u)(x:K9 P w H h):y9 P w H h a u:=by
 rcases r with r|⟨o,r⟩
 · exact x a u r
 · obtain ⟨_,q⟩:=x a _ r;exact q
def Mut:Option HO->Prop
 |some (.lst _)=>True
 |some (.dK _)=>True
 |some (.dT _)=>True
 |some (.set _ _)=>True
 |some (.ins _ _ _)=>True
 |some (.ext _)=>True
 |_=>False
section
variable {P:Program} {w:World} {H:Hp} {h h':Heap} {x e:Addr} {o':HO}
theorem K9.write (ok:K9 P w H h)(mu:Mut (H x))(he:e=x\/H e=some (.own x))(k:∀b u,b≠e->h.get? b=some u->h'.get? b=some u)(heo:∃u,h'.get? e=some u)
   (new:y9 P w (c9 H x o') h' x o'):K9 P w (c9 H x o') h':=fun b u q=>by
 have nown:∀c y,H c=some (.own y)->c≠x:=fun c y r z=>by subst z;rw[r] at mu;exact mu
 have ntup:∀c xs,H c=some (.tup xs)->c≠x:=fun c xs r z=>by subst z;rw[r] at mu;exact mu
 by_cases hb:b=x
 · subst hb;rw[c7] at q;cases q;exact new
 · rw[g8 hb] at q
   by_cases hbe:b=e
   · have q':H b=some (.own x):=by
       rcases he with z|z
       · exact absurd (hbe.trans z) hb
       · rw[hbe];exact z
     rw[q] at q';cases q';obtain ⟨v,hv⟩:=heo;exact ⟨v,by rw[hbe];exact hv⟩
   · refine (ok b u q).stay (fun c v hc r=>k c v ?_ r) (fun c r=>by rw[g8 (nown c b r)];exact r) fun c xs r=>by rw[g8 (ntup c xs r)];exact r
     rcases hc with rfl|hc
     · exact hbe
     · rintro rfl
       rcases he with z|z
       · exact nown c b hc z
       · rw[hc] at z;cases z;exact hb rfl
end
structure Un (fs ex:List Addr)(H H':Hp)(h h':Heap):Prop where
 keep:∀b o,h.get? b=some o->H b=none->b∉fs->b∉ex->h'.get? b=some o
 slot:∀b o,h.get? b=some o->H b=none->b∈fs->b∉ex->∃sl,h'.get? b=some {o with slots:=sl}
 free:∀b o,h.get? b=some o->H b=none->b∉ex->H' b=none
 there:∀b o,h.get? b=some o->b∉ex->∃o',h'.get? b=some o'
 tups:∀b xs,H b=some (.tup xs)->H' b=some (.tup xs)
 frzs:∀b o u,H b=some (.frz o u)->H' b=some (.frz o u)
 tbls:∀b ps,H b=some (.tbl ps)->∃more,H' b=some (.tbl (ps++more))
section
variable {fs fs' ex ex':List Addr} {H H1 H2:Hp} {h h1 h2 h':Heap} {a x e:Addr} {o:HO}
theorem Un.any (u:Un fs ex H H1 h h1){b:Addr}{ob:Obj}(q:h.get? b=some ob)(n:H b=none)(hx:b∉ex):∃sl,h1.get? b=some {ob with slots:=sl}:=by
 by_cases hb:b∈fs
 · exact u.slot b ob q n hb hx
 · exact ⟨ob.slots,u.keep b ob q n hb hx⟩
theorem Un.kept (k:∀b u,h.get? b=some u->h'.get? b=some u):Un fs ex H H h h':=
 ⟨fun b ob q _ _ _=>k b ob q,fun b ob q _ _ _=>⟨ob.slots,k b ob q⟩,fun _ _ _ n _=>n,fun b ob q _=>⟨ob,k b ob q⟩,fun _ _ q=>q,fun _ _ _ q=>q,fun _ ps q=>⟨#[],by rw[q];simp⟩⟩
theorem Un.refl:Un fs ex H H h h:=Un.kept fun _ _ q=>q
theorem Un.laid (k:∀b u,h.get? b=some u->h'.get? b=some u)(hp:h.objs.size<=a)(hn:H a=none):Un fs ex H (c9 H a o) h h' where
 keep:=fun b u q _ _ _=>k b u q
 slot:=fun b u q _ _ _=>⟨u.slots,k b u q⟩
 free:=fun b u q n _=>by rw[g8 (eh5 (eg2 (Heap.lt_size q) hp))];exact n
 there:=fun b u q _=>⟨u,k b u q⟩
 tups:=fun b xs q=>by rw[g8 (g7 q hn)];exact q
 frzs:=fun b u xs q=>by rw[g8 (g7 q hn)];exact q
 tbls:=fun b ps q=>⟨#[],by rw[g8 (g7 q hn),q];simp⟩
theorem Un.write (mu:Mut (H x))(he:e=x\/H e=some (.own x))(k:∀b u,b≠e->h.get? b=some u->h'.get? b=some u)(heo:∃u,h'.get? e=some u):Un fs ex H (c9 H x o) h h':=by
 have hx:∀b,H b=none->b≠x:=fun b n z=>by subst z;rw[n] at mu;exact mu
 have hb:∀b,H b=none->b≠e:=fun b n z=>by
   subst z
   rcases he with r|r
   · exact hx b n r
   · rw[n] at r;cases r
 have hm:∀b u,H b=some u->¬Mut (some u)->b≠x:=fun b u q nm z=>by subst z;rw[q] at mu;exact nm mu
 refine ⟨fun b u q n _ _=>k b u (hb b n) q,fun b u q n _ _=>⟨u.slots,k b u (hb b n) q⟩,fun b u q n _=>by rw[g8 (hx b n)];exact n,fun b u q _=> ?_,
   fun b xs q=>by rw[g8 (hm b _ q fun z=>z)];exact q,fun b u xs q=>by rw[g8 (hm b _ q fun z=>z)];exact q,fun b ps q=>⟨#[],by rw[g8 (hm b _ q fun z=>z),q];simp⟩⟩
 by_cases hbe:b=e
 · subst hbe;exact heo
 · exact ⟨u,k b u hbe q⟩
end
def trk (h:Heap)(H:Hp):List Addr:=(ei1 h.objs.size).filter fun a=>(H a).isSome
def ar8 (h:Heap)(H:Hp):Heap:=PySem.W.hideAll h (trk h H)
theorem co4 (h:Heap)(H:Hp):(ar8 h H).objs.size=h.objs.size:=PySem.W.hideAll_size _ _
theorem cz2 {h:Heap}{H:Hp}{b:Addr}{o:Obj}(e:h.get? b=some o)(n:H b=none):(ar8 h H).get? b=some o:=
 PySem.W.hideAll_get _ e fun hm=>by
   have q:(H b).isSome=true:=(en8.mp hm).2;rw[n] at q;simp at q
theorem dh0 {h:Heap}{H:Hp}{b:Addr}{o:Obj}(e:(ar8 h H).get? b=some o):h.get? b=some o/\H b=none:=by
 have e':h.get? b=some o:=PySem.W.of_hideAll (trk h H) e;refine ⟨e',?_⟩
 cases q:H b with
 |none=>rfl
 |some x=>
  have hm:b∈trk h H:=en8.mpr ⟨ei2.mpr (Heap.lt_size e'),by simp [q]⟩;have z:(ar8 h H).get? b=none:=PySem.W.hideAll_none (trk h H) hm;rw[z] at e;cases e
end L2
namespace L2
open PySem PySem.Spec PyProof.Rows
structure Mod (K:PySem.W.Frag)(mg:Str->Option Value)(base:Heap):Prop where
 kin:K.In base
 glob:base.Ns mainGlobals mg
 blt:∃mb,base.Ns builtinsNs mb/\∀x:Str,x≠"__name__"->mb x=bootBuiltins x
 nolimit:base.NoLimit
structure Cx where
 prog:Program
 w:World
 K:PySem.W.Frag
 mg:Str->Option Value
 base:Heap
 A:Around
 N:List Str
 s₀:Shared
 H₀:Hp
 env:Env
 outer:List Env
 stack:List Env
 ex:List Addr
 fn:Str->Bool
 calm:Bool
 pn:List (Addr×Obj)
 xe:Value->Shared->Prop
def J7 (l:List Env):List Addr:=l.filterMap (·.frame)
abbrev Cx.fs (X:Cx):List Addr:=J7 X.outer
def Vis (sc:Scope)(x:Str):Prop:=sc.names.lookup x=some .local\/sc.names.lookup x=some .cell\/sc.names.lookup x=some .free
def Loc (sc:Scope)(x:Str):Prop:=sc.names.lookup x=some .local\/sc.names.lookup x=some .cell
def dy8 (env:Env)(h:Heap)(m:Str->Option Value)(x:Str)(u:Value):Prop:=
 (env.kindOf x=some .local/\m x=some u)\/((env.kindOf x=some .cell\/env.kindOf x=some .free)/\∃c,env.cells.lookup x=some c/\h.IsCell c (some u))
structure Cx.Ok (X:Cx):Prop where
 mod:Mod X.K X.mg X.base
 kind:X.env.scope.kind= .function
 glob:X.env.globals=mainGlobals
 blt:X.env.builtins=builtinsNs
 above:X.s₀.heap.objs.size<=X.env.locals
 inj:∀x y c,X.env.cells.lookup x=some c->X.env.cells.lookup y=some c->x=y
 has:∀x,(X.env.kindOf x=some .cell\/X.env.kindOf x=some .free)->∃c,X.env.cells.lookup x=some c
 cab:∀x c,X.fn x=true->X.env.cells.lookup x=some c->X.s₀.heap.objs.size<=c
 hd:X.calm=true->X.A.handled=none
 frames:X.A.frames=some X.stack
 stk:X.stack=X.outer\/(X.stack=X.env::X.outer/\X.env.frame=some X.env.locals)
 exf:∀b∈X.ex,b≠X.env.locals/\∀x c,X.env.cells.lookup x=some c->c≠b
 bs:∀b o,X.base.get? b=some o->X.s₀.heap.get? b=some o/\X.H₀ b=none
 bsz:X.base.objs.size<=X.s₀.heap.objs.size
 noex:∀b o,X.base.get? b=some o->b∉X.ex
 exfs:∀b∈X.ex,b∉X.fs
 funs:X.s₀.heap.FunFrames X.base X.outer
 frf:∀b∈X.fs,X.H₀ b=none
structure i5 (X:Cx)(pins:List (Addr×Obj))(σ:List (Option V))(H:Hp)(s:Shared):Prop where
 ok:X.Ok
 os:s.os=X.s₀.os
 bare:AllBare s.gens
 base:Un X.fs X.ex X.H₀ H X.s₀.heap s.heap
 loc:∃m,s.heap.Ns X.env.locals m/\∀(i:Nat) (x:Str) (v:V),X.N[i]? =some x->σ[i]? =some (some v)->Vis X.env.scope x->∃u,o9 v u/\dy8 X.env s.heap m x u
 cell:∀x c,X.env.cells.lookup x=some c->∃v,s.heap.IsCell c v
 free:H X.env.locals=none
 freeC:∀x c,X.env.cells.lookup x=some c->H c=none
 pin:∀p∈X.pn++pins,s.heap.get? p.1=some p.2/\H p.1=none/\p.1≠X.env.locals/\p.1∉X.fs/\∀v,p.2.data≠.cell v
 hok:K9 X.prog X.w H s.heap
 len:σ.length=X.N.length
section
variable {X:Cx} {pins:List (Addr×Obj)} {σ:List (Option V)} {H H':Hp} {s:Shared} {h':Heap}
theorem Cx.Ok.nofr (ok:X.Ok){b:Addr}{o:Obj}(e:X.base.get? b=some o):b∉X.fs:=fun hb=>by
 have:=(ok.funs.mem hb).1;rw[e] at this;cases this
theorem i5.bs (I:i5 X pins σ H s):∀b o,X.base.get? b=some o->s.heap.get? b=some o/\H b=none:=fun b o e=>
 ⟨I.base.keep b o (I.ok.bs b o e).1 (I.ok.bs b o e).2 (I.ok.nofr e) (I.ok.noex b o e),I.base.free b o (I.ok.bs b o e).1 (I.ok.bs b o e).2 (I.ok.noex b o e)⟩
theorem i5.bk (I:i5 X pins σ H s):∀b o,X.base.get? b=some o->s.heap.get? b=some o:=fun b o e=>(I.bs b o e).1
theorem i5.mod (I:i5 X pins σ H s):Mod X.K X.mg X.base:=I.ok.mod
theorem i5.kIn (I:i5 X pins σ H s):X.K.In s.heap:=I.ok.mod.kin.keeps I.bk
theorem i5.lt (I:i5 X pins σ H s):X.env.locals < s.heap.objs.size:=let ⟨_,hn,_⟩:=I.loc;hn.lt
theorem i5.sz (I:i5 X pins σ H s):X.s₀.heap.objs.size<=s.heap.objs.size:=ee6 I.ok.above (eh1 I.lt)
theorem i5.nofs (I:i5 X pins σ H s){a:Addr}(h:s.heap.objs.size<=a):a∉X.fs:=fun hb=>by
 obtain ⟨_,o,ho,_⟩:=I.ok.funs.mem hb;exact absurd (eg2 (Heap.lt_size ho) (ee6 I.sz h)) (en4 _)
theorem i5.cne (I:i5 X pins σ H s):∀x c,X.env.cells.lookup x=some c->c≠X.env.locals:=fun x c e z=>by
 obtain ⟨v,o,ho,hd⟩:=I.cell x c e;obtain ⟨m,⟨o',es,ep,ho',hd',_⟩,_⟩:=I.loc;rw[z,ho'] at ho;cases ho;rw[hd'] at hd;cases hd
theorem i5.funs (I:i5 X pins σ H s):s.heap.FunFrames X.base X.outer:=by
 have all:∀(l:List Env),(∀b∈J7 l,b∈X.fs)->X.s₀.heap.FunFrames X.base l->s.heap.FunFrames X.base l:=by
   intro l
   induction l with
   |nil=>intro _ _;trivial
   |cons env r ih=>
    intro hs hl;obtain ⟨hk,⟨L,o,hf,hn,ho,hd⟩,hr⟩:=hl;have hL:L∈X.fs:=hs L (by unfold J7;rw[em7,hf];exact ed7)
    obtain ⟨sl,e⟩:=I.base.slot L o ho (I.ok.frf L hL) hL fun z=>I.ok.exfs L z hL
    exact ⟨hk,⟨L,_,hf,hn,e,hd⟩,ih (fun b hb=>hs b (by unfold J7;rw[em7,hf];exact ee0 _ hb)) hr⟩
 exact all X.outer (fun _ hb=>hb) I.ok.funs
theorem i5.stack (I:i5 X pins σ H s):s.heap.FunFrames X.base X.stack:=by
 rcases I.ok.stk with e|⟨e,hf⟩
 · rw[e];exact I.funs
 · rw[e];obtain ⟨m,hn,_⟩:=I.loc;refine .cons (by rw[I.ok.kind];decide) hf hn ?_ I.funs;exact Heap.get?_none_of_le (ee6 I.ok.bsz I.ok.above)
theorem i5.stkSub (I:i5 X pins σ H s):∀b∈J7 X.stack,b∈X.env.locals::X.fs:=fun b hb=>by
 rcases I.ok.stk with e|⟨e,hf⟩
 · rw[e] at hb;exact ee0 _ hb
 · rw[e] at hb;unfold J7 at hb;rw[em7,hf] at hb;exact hb
theorem i5.stkFree (I:i5 X pins σ H s):∀b∈J7 X.stack,H b=none:=fun b hb=>by
 rcases ee8.mp (I.stkSub b hb) with e|hb
 · rw[e];exact I.free
 · obtain ⟨_,o,ho,_⟩:=I.ok.funs.mem hb
   exact I.base.free b o ho (I.ok.frf b hb) fun z=>I.ok.exfs b z hb
theorem i5.step {g':Array GenState}{t':Nat}{d':Drawn}{ch:List Addr}(I:i5 X pins σ H s)
   (hch:∀b∈ch,(b∈X.ex\/X.s₀.heap.objs.size<=b)/\b≠X.env.locals/\(∀x c,X.env.cells.lookup x=some c->c≠b)/\∀p∈X.pn++pins,p.1≠b)
   (keep:∀b o,b≠X.env.locals->b∉X.fs->b∉ch->s.heap.get? b=some o->H b=none->h'.get? b=some o)
   (slot:∀b o,b≠X.env.locals->b∈X.fs->b∉ch->s.heap.get? b=some o->H b=none->∃sl,h'.get? b=some {o with slots:=sl}) (free:∀b o,b∉ch->s.heap.get? b=some o->H b=none->H' b=none)
   (there:∀b o,b∉ch->s.heap.get? b=some o->∃o',h'.get? b=some o')
   (tups:∀b xs,H b=some (.tup xs)->H' b=some (.tup xs)) (frzs:∀b o u,H b=some (.frz o u)->H' b=some (.frz o u)) (tbls:∀b ps,H b=some (.tbl ps)->∃more,H' b=some (.tbl (ps++more)))
   (ns:∀m,s.heap.Ns X.env.locals m->h'.Ns X.env.locals m) (hok:K9 X.prog X.w H' h') (hg:AllBare g'):
   i5 X pins σ H' {s with heap:=h',gens:=g',drawn:=d',toks:=t'}:=by
 have neL:∀b o,X.s₀.heap.get? b=some o->b≠X.env.locals:=fun b o e=>eh5 (eg2 (Heap.lt_size e) I.ok.above)
 have neC:∀b o,X.s₀.heap.get? b=some o->b∉X.ex->b∉ch:=fun b o e hx hb=>by
   rcases (hch b hb).1 with z|z
   · exact hx z
   · exact absurd (eg2 (Heap.lt_size e) z) (en4 _)
 have cellK:∀x c,X.env.cells.lookup x=some c->∀v,s.heap.IsCell c v->h'.IsCell c v:=fun x c e v ⟨o,ho,hd⟩=>by
   have nch:c∉ch:=fun z=>(hch c z).2.2.1 x c e rfl
   by_cases hc:c∈X.fs
   · obtain ⟨sl,q⟩:=slot c o (I.cne x c e) hc nch ho (I.freeC x c e);exact ⟨_,q,hd⟩
   · exact ⟨o,keep c o (I.cne x c e) hc nch ho (I.freeC x c e),hd⟩
 refine ⟨I.ok,I.os,hg,⟨fun b o e n hb hx=> ?_,fun b o e n hb hx=> ?_,fun b o e n hx=> ?_,fun b o e hx=> ?_,fun b xs e=>tups b xs (I.base.tups b xs e),fun b o xs e=>frzs b o xs (I.base.frzs b o xs e),fun b ps e=> ?_⟩,?_,fun x c e=> ?_,?_,fun x c e=> ?_,fun p hp=> ?_,hok,I.len⟩
 · exact keep b o (neL b o e) hb (neC b o e hx) (I.base.keep b o e n hb hx) (I.base.free b o e n hx)
 · obtain ⟨sl,e1⟩:=I.base.slot b o e n hb hx;obtain ⟨sl',e2⟩:=slot b _ (neL b o e) hb (neC b o e hx) e1 (I.base.free b o e n hx);exact ⟨sl',e2⟩
 · obtain ⟨o',e1⟩:=I.base.there b o e hx;exact free b o' (neC b o e hx) e1 (I.base.free b o e n hx)
 · obtain ⟨o',e1⟩:=I.base.there b o e hx;exact there b o' (neC b o e hx) e1
 · obtain ⟨m1,e1⟩:=I.base.tbls b ps e;obtain ⟨m2,e2⟩:=tbls b _ e1;exact ⟨m1++m2,by rw[e2,Array.append_assoc]⟩
 · obtain ⟨m,hn,hl⟩:=I.loc;refine ⟨m,ns m hn,fun i x v e1 e2 e3=> ?_⟩;obtain ⟨u,r,l⟩:=hl i x v e1 e2 e3;refine ⟨u,r,?_⟩
   rcases l with l|⟨k,c,e,z⟩
   · exact .inl l
   · exact .inr ⟨k,c,e,cellK x c e _ z⟩
 · obtain ⟨v,z⟩:=I.cell x c e;exact ⟨v,cellK x c e v z⟩
 · obtain ⟨m,⟨o,_,_,ho,_⟩,_⟩:=I.loc;exact free _ o (fun z=>(hch _ z).2.1 rfl) ho I.free
 · obtain ⟨v,o,ho,hd⟩:=I.cell x c e;exact free c o (fun z=>(hch c z).2.2.1 x c e rfl) ho (I.freeC x c e)
 · obtain ⟨e,n,ne,nf,d⟩:=I.pin p hp
   have nch:p.1∉ch:=fun z=>(hch p.1 z).2.2.2 p hp rfl
   exact ⟨keep p.1 p.2 ne nf nch e n,free p.1 p.2 nch e n,ne,nf,d⟩
theorem i5.un {t':Nat}(I:i5 X pins σ H s)(u:Un X.fs [] H H' s.heap h')(hok:K9 X.prog X.w H' h'):i5 X pins σ H' {s with heap:=h',toks:=t'}:=by
 obtain ⟨m,⟨o,es,ep,ho,r⟩,_⟩:=id I.loc;obtain ⟨sl,hL⟩:=u.any ho I.free (by simp)
 exact I.step (g':=s.gens) (d':=s.drawn) (ch:=[]) (fun _ z=>nomatch z) (fun b o _ hb _ e n=>u.keep b o e n hb (by simp)) (fun b o _ hb _ e n=>u.slot b o e n hb (by simp)) (fun b o _ e n=>u.free b o e n (by simp)) (fun b o _ e=>u.there b o e (by simp)) u.tups u.frzs u.tbls (fun m' hm=>by
   obtain ⟨o',es',ep',ho',r'⟩:=hm;rw[ho] at ho';cases ho'
   exact ⟨_,es',ep',hL,r'⟩) hok I.bare
theorem i5.call {g':Array GenState}{t':Nat}{d':Drawn}{ch:List Addr}(I:i5 X pins σ H s)(u:Un (J7 X.stack) ch H H' s.heap h')(hok:K9 X.prog X.w H' h')(hg:AllBare g')
   (hch:∀b∈ch,(b∈X.ex\/X.s₀.heap.objs.size<=b)/\b≠X.env.locals/\(∀x c,X.env.cells.lookup x=some c->c≠b)/\∀p∈X.pn++pins,p.1≠b):
   i5 X pins σ H' {s with heap:=h',gens:=g',drawn:=d',toks:=t'}:=by
 obtain ⟨m,⟨o,es,ep,ho,r⟩,_⟩:=id I.loc
 obtain ⟨sl,hL⟩:=u.any ho I.free fun z=>(hch _ z).2.1 rfl
 exact I.step (ch:=ch) hch (fun b o hL hb hc e n=>u.keep b o e n (fun z=>(ee8.mp (I.stkSub b z)).elim hL hb) hc) (fun b o _ _ hc e n=>u.any e n hc) (fun b o hc e n=>u.free b o e n hc) (fun b o hc e=>u.there b o e hc) u.tups u.frzs u.tbls (fun m' hm=>by
   obtain ⟨o',es',ep',ho',r'⟩:=hm;rw[ho] at ho';cases ho'
   exact ⟨_,es',ep',hL,r'⟩) hok hg
theorem i5.turned {t':Nat}{it:Addr}(I:i5 X pins σ H s)(k:∀b o,b≠it->s.heap.get? b=some o->h'.get? b=some o)(hn:H it=none)(hL:it≠X.env.locals)
   (h1:it∈X.ex\/X.s₀.heap.objs.size<=it) (h2:∀x c,X.env.cells.lookup x=some c->c≠it) (h3:∀p∈X.pn++pins,p.1≠it):i5 X pins σ H {s with heap:=h',toks:=t'}:=by
 have nit:∀b u,H b=some u->b≠it:=fun b u e z=>by rw[z,hn] at e;cases e
 refine I.step (g':=s.gens) (d':=s.drawn) (ch:=[it]) (fun b hb=> ?_) (fun b o _ _ hc e _=>k b o (fun z=>hc (by simp [z])) e) (fun b o _ _ hc e _=>⟨o.slots,k b o (fun z=>hc (by simp [z])) e⟩) (fun _ _ _ _ n=>n)
   (fun b o hc e=>⟨o,k b o (fun z=>hc (by simp [z])) e⟩) (fun _ _ e=>e) (fun _ _ _ e=>e) (fun b ps e=>⟨#[],by rw[e];simp⟩) (fun m hm=> ?_) (fun b u e=> ?_) I.bare
 · have e:b=it:=by simpa using hb
   subst e;exact ⟨h1,hL,h2,h3⟩
 · obtain ⟨o,es,ep,ho,r⟩:=hm;exact ⟨o,es,ep,k _ o (Ne.symm hL) ho,r⟩
 · refine (I.hok b u e).stay (fun c v hc q=>k c v ?_ q) (fun _ q=>q) fun _ _ q=>q
   rcases hc with z|z
   · rw[z];exact nit b u e
   · exact nit c _ z
theorem i5.tok (I:i5 X pins σ H s)(t:Nat):i5 X pins σ H {s with toks:=t}:=I.un (h':=s.heap) (t':=t) Un.refl I.hok
theorem i5.kept {t':Nat}(I:i5 X pins σ H s)(k:∀b u,s.heap.get? b=some u->h'.get? b=some u):i5 X pins σ H {s with heap:=h',toks:=t'}:=I.un (Un.kept k) (I.hok.kept k)
theorem i5.laid {a:Addr}{o:HO}{t':Nat}(I:i5 X pins σ H s)(k:∀b u,s.heap.get? b=some u->h'.get? b=some u)(hp:s.heap.objs.size<=a)(new:y9 X.prog X.w (c9 H a o) h' a o):
 i5 X pins σ (c9 H a o) {s with heap:=h',toks:=t'}:=I.un (Un.laid k hp (I.hok.fresh hp)) (I.hok.laid k hp new)
theorem i5.write {x e:Addr}{o:HO}{t':Nat}(I:i5 X pins σ H s)(mu:Mut (H x))(he:e=x\/H e=some (.own x))(k:∀b u,b≠e->s.heap.get? b=some u->h'.get? b=some u)(heo:∃u,h'.get? e=some u)
 (new:y9 X.prog X.w (c9 H x o) h' x o):i5 X pins σ (c9 H x o) {s with heap:=h',toks:=t'}:=I.un (Un.write mu he k heo) (I.hok.write mu he k heo new)
theorem i5.pins_of {pins':List (Addr×Obj)}(I:i5 X pins σ H s)(h:∀p∈pins',s.heap.get? p.1=some p.2/\H p.1=none/\p.1≠X.env.locals/\p.1∉X.fs/\∀v,p.2.data≠.cell v):i5 X pins' σ H s:=
 ⟨I.ok,I.os,I.bare,I.base,I.loc,I.cell,I.free,I.freeC,fun p hp=>(ee2.mp hp).elim (fun z=>I.pin p (eh8 _ z)) (h p),I.hok,I.len⟩
theorem be5 {N:List Str}(hN:N.Nodup){i j:Nat}{x:Str}(a:N[i]? =some x)(b:N[j]? =some x):i=j:=by
 obtain ⟨h1,e1⟩:=ed3.mp a;obtain ⟨h2,e2⟩:=ed3.mp b;exact (List.getElem_inj hN).mp (e1.trans e2.symm)
theorem bq3 {M:Model}{A:Around}{E:Value->Shared->Prop}{i:Nat}{x:Str}{v:V}{u:Value}{Q:Unit->Shared->Prop}(I:i5 X pins σ H s)(hN:X.N.Nodup)(hi:X.N[i]? =some x)(hx:Loc X.env.scope x)(r:o9 v u)
   (h:∀s',i5 X pins (σ.set i (some v)) H s'->(∃a,Heap.SameBut a s.heap s'.heap/\(a=X.env.locals\/X.env.cells.lookup x=some a))->Q () s') (hf:X.fn x=true\/X.env.scope.names.lookup x=some .local:=by first|exact .inl rfl|exact .inr rfl|assumption):wpAny M A (storeName X.env x u) Q E s:=by
 obtain ⟨m,hn,hl⟩:=id I.loc
 have hcls:(X.env.scope.kind== .class||(X.env.scope.kind== .module&&X.env.locals !=X.env.globals))=false:=by rw[I.ok.kind];rfl
 have hiσ:i < σ.length:=by rw[I.len];exact (ed3.mp hi).1
 have cne:=I.cne
 have tracked:∀{a:Addr} {h':Heap},(∃o,s.heap.get? a=some o/\H a=none)->Heap.SameBut a s.heap h'->K9 X.prog X.w H h':=fun {a h'} ha hs b ob e=>by
   obtain ⟨_,_,hfree⟩:=ha
   refine (I.hok b ob e).stay (fun c w' hc q=>(hs.2 c ?_).trans q) (fun _ q=>q) fun _ _ q=>q
   rintro rfl
   rcases hc with rfl|hc
   · rw[hfree] at e;cases e
   · rw[hfree] at hc;cases hc
 rcases hx with hk|hk
 · refine wpAny_storeName_local hk hn (fun h' hn' hs=> ?_) hcls;obtain ⟨oL,_,_,hoL,_⟩:=id hn;refine h _ ⟨I.ok,I.os,I.bare,⟨fun b o e n hb hx=> ?_,fun b o e n hb hx=> ?_,I.base.free,fun b o e hx=> ?_,I.base.tups,I.base.frzs,I.base.tbls⟩,⟨_,hn',fun j y v' e1 e2 e3=> ?_⟩,fun y c e=> ?_,I.free,I.freeC,fun p hp=> ?_,tracked ⟨oL,hoL,I.free⟩ hs,by simpa using I.len⟩ ⟨_,hs,.inl rfl⟩
   · exact (hs.2 b (eh5 (eg2 (Heap.lt_size e) I.ok.above))).trans (I.base.keep b o e n hb hx)
   · obtain ⟨sl,e1⟩:=I.base.slot b o e n hb hx;exact ⟨sl,(hs.2 b (eh5 (eg2 (Heap.lt_size e) I.ok.above))).trans e1⟩
   · obtain ⟨o',e1⟩:=I.base.there b o e hx;exact ⟨o',(hs.2 b (eh5 (eg2 (Heap.lt_size e) I.ok.above))).trans e1⟩
   · by_cases hj:j=i
     · subst hj;rw[hi] at e1;cases e1;rw[eq0 hiσ] at e2;cases e2;exact ⟨u,r,.inl ⟨hk,by simp⟩⟩
     · rw[er3 (Ne.symm hj)] at e2;obtain ⟨u',r',q⟩:=hl j y v' e1 e2 e3;refine ⟨u',r',?_⟩
       rcases q with ⟨k,e⟩|⟨k,c,e,z⟩
       · refine .inl ⟨k,?_⟩
         have:y≠x:=fun e=>hj (be5 hN e1 (e▸hi))
         simp [this,e]
       · exact .inr ⟨k,c,e,z.sameBut hs (cne y c e)⟩
   · obtain ⟨w',z⟩:=I.cell y c e;exact ⟨w',z.sameBut hs (cne y c e)⟩
   · obtain ⟨e,n,ne,nf,d⟩:=I.pin p hp;exact ⟨(hs.2 p.1 ne).trans e,n,ne,nf,d⟩
 · have hfn:X.fn x=true:=by
     rcases hf with z|z
     · exact z
     · rw[z] at hk;cases hk
   obtain ⟨c,hc⟩:=I.ok.has x (.inl hk);obtain ⟨w',z⟩:=I.cell x c hc;refine wpAny_storeName_cell I.ok.kind hk hc z (fun h' hc' hs=> ?_);obtain ⟨oc,hoc,hocd⟩:=id z;refine h {s with heap:=h'} ⟨I.ok,I.os,I.bare,⟨fun b o e n hb hx=> ?_,fun b o e n hb hx=> ?_,I.base.free,fun b o e hx=> ?_,I.base.tups,I.base.frzs,I.base.tbls⟩,⟨m,hn.sameBut hs (Ne.symm (cne x c hc)),fun j y v' e1 e2 e3=> ?_⟩,fun y c' e=> ?_,I.free,I.freeC,fun p hp=> ?_,tracked ⟨oc,hoc,I.freeC x c hc⟩ hs,by simpa using I.len⟩ ⟨c,hs,.inr hc⟩
   · exact (hs.2 b (eh5 (eg2 (Heap.lt_size e) (I.ok.cab x c hfn hc)))).trans (I.base.keep b o e n hb hx)
   · obtain ⟨sl,e1⟩:=I.base.slot b o e n hb hx;exact ⟨sl,(hs.2 b (eh5 (eg2 (Heap.lt_size e) (I.ok.cab x c hfn hc)))).trans e1⟩
   · obtain ⟨o',e1⟩:=I.base.there b o e hx;exact ⟨o',(hs.2 b (eh5 (eg2 (Heap.lt_size e) (I.ok.cab x c hfn hc)))).trans e1⟩
   · by_cases hj:j=i
     · subst hj;rw[hi] at e1;cases e1;rw[eq0 hiσ] at e2;cases e2;exact ⟨u,r,.inr ⟨.inl hk,c,hc,hc'⟩⟩
     · rw[er3 (Ne.symm hj)] at e2;obtain ⟨u',r',q⟩:=hl j y v' e1 e2 e3;refine ⟨u',r',?_⟩
       rcases q with q|⟨k,c',e,z'⟩
       · exact .inl q
       · refine .inr ⟨k,c',e,z'.sameBut hs ?_⟩;rintro rfl;exact hj (be5 hN e1 (I.ok.inj _ _ _ e hc▸hi))
   · by_cases hcc:c'=c
     · subst hcc;exact ⟨_,hc'⟩
     · obtain ⟨w2,z2⟩:=I.cell y c' e;exact ⟨w2,z2.sameBut hs hcc⟩
   · obtain ⟨e,n,ne,nf,d⟩:=I.pin p hp;refine ⟨(hs.2 p.1 ?_).trans e,n,ne,nf,d⟩;intro q;rw[q,hoc] at e;have q':oc=p.2:=Option.some.inj e;exact d w' (by rw[<-q'];exact hocd)
theorem ae1 {M:Model}{A:Around}{E:Value->Shared->Prop}{i:Nat}{x:Str}{v:V}{u:Value}{Q:Unit->Shared->Prop}(I:i5 X pins σ H s)(hN:X.N.Nodup)(hi:X.N[i]? =some x)(hx:Loc X.env.scope x)(r:o9 v u)
   (h:∀s',i5 X pins (σ.set i (some v)) H s'->Q () s') (hf:X.fn x=true\/X.env.scope.names.lookup x=some .local:=by first|exact .inl rfl|exact .inr rfl|assumption):wpAny M A (storeName X.env x u) Q E s:=
 bq3 I hN hi hx r (fun s' I' _=>h s' I') hf
theorem i5.call' {s':Shared}{ch:List Addr}(I:i5 X pins σ H s)(ho:s'.os=s.os)(u:Un (J7 X.stack) ch H H' s.heap s'.heap)(hok:K9 X.prog X.w H' s'.heap)(hg:AllBare s'.gens)
   (hch:∀b∈ch,(b∈X.ex\/X.s₀.heap.objs.size<=b)/\b≠X.env.locals/\(∀x c,X.env.cells.lookup x=some c->c≠b)/\∀p∈X.pn++pins,p.1≠b):i5 X pins σ H' s':=by
 obtain ⟨h',g',d',t',o'⟩:=s';have e:o'=s.os:=ho;subst e;exact I.call (g':=g') (t':=t') (d':=d') u hok hg hch
end
abbrev XK:=Value->Option Addr->Hp->Prop
abbrev St:=List (Option V)
abbrev VK:=V->Hp->Prop
abbrev TE:=St->Hp->VK->Prop
abbrev TT:=St->Hp->(Bool->Hp->Prop)->Prop
abbrev TA:=St->Hp->(List V->Hp->Prop)->Prop
structure W4 where
 nx:St->Hp->Prop
 rt:VK
 bk:St->Hp->Prop:=fun _ _=>False
 ct:St->Hp->Prop:=fun _ _=>False
abbrev TS:=W4->St->Hp->Prop
def EP (X:Cx)(pins:List (Addr×Obj))(σ:St)(Q:VK)(u:Value)(s':Shared):Prop:=∃v H',i5 X pins σ H' s'/\o9 v u/\Q v H'
def TP (X:Cx)(pins:List (Addr×Obj))(σ:St)(Q:Bool->Hp->Prop)(b:Bool)(s':Shared):Prop:=∃H',i5 X pins σ H' s'/\Q b H'
def AP (X:Cx)(pins:List (Addr×Obj))(σ:St)(Q:List V->Hp->Prop)(us:List Value)(s':Shared):Prop:=∃vs H',i5 X pins σ H' s'/\n6 vs us/\Q vs H'
def SP (X:Cx)(pins:List (Addr×Obj))(D:W4)(f:Flow)(s':Shared):Prop:=
 match f with
 | .next=>∃σ' H',i5 X pins σ' H' s'/\D.nx σ' H'
 | .brk=>∃σ' H',i5 X pins σ' H' s'/\D.bk σ' H'
 | .cont=>∃σ' H',i5 X pins σ' H' s'/\D.ct σ' H'
 | .ret u=>∃v σ' H',i5 X pins σ' H' s'/\o9 v u/\D.rt v H'
def PE (X:Cx)(e:Expr)(t:TE):Prop:=
 ∀(pins:List (Addr×Obj)) (s:Shared) (σ:St) (H:Hp) (Q:VK),i5 X pins σ H s->t σ H Q->wpAny (model X.prog X.w) X.A (eval e X.env) (EP X pins σ Q) X.xe s
def PT (X:Cx)(e:Expr)(t:TT):Prop:=
 ∀(pins:List (Addr×Obj)) (s:Shared) (σ:St) (H:Hp) (Q:Bool->Hp->Prop),i5 X pins σ H s->t σ H Q->wpAny (model X.prog X.w) X.A (isTrue e X.env (eval e X.env)) (TP X pins σ Q) X.xe s
def PW (X:Cx)(e:Expr)(t:TT):Prop:=
 ∀(whole:Sem Value) (pins:List (Addr×Obj)) (s:Shared) (σ:St) (H:Hp) (Q:Bool->Hp->Prop),i5 X pins σ H s->t σ H Q->wpAny (model X.prog X.w) X.A (isTrue e X.env whole) (TP X pins σ Q) X.xe s
theorem PW.pt {X:Cx}{e:Expr}{t:TT}(h:PW X e t):PT X e t:=h _
def PA (X:Cx)(es:List Expr)(t:TA):Prop:=
 ∀(pos:Pos) (pins:List (Addr×Obj)) (s:Shared) (σ:St) (H:Hp) (Q:List V->Hp->Prop),i5 X pins σ H s->t σ H Q->wpAny (model X.prog X.w) X.A (spliced (backTo pos (starEach es X.env))) (AP X pins σ Q) X.xe s
def PS (X:Cx)(st:Stmt)(t:TS):Prop:=
 ∀(pins:List (Addr×Obj)) (s:Shared) (σ:St) (H:Hp) (D:W4),i5 X pins σ H s->t D σ H->wpAny (model X.prog X.w) X.A (exec st X.env) (SP X pins D) X.xe s
def PSs (X:Cx)(st:List Stmt)(t:TS):Prop:=
 ∀(pins:List (Addr×Obj)) (s:Shared) (σ:St) (H:Hp) (D:W4),i5 X pins σ H s->t D σ H->wpAny (model X.prog X.w) X.A (execs st X.env) (SP X pins D) X.xe s
theorem r6 {α:Type}{t:Sem α}{Q Q':α->Shared->Prop}{M:Model}{A:Around}{E:Value->Shared->Prop}{s:Shared}(h:wpAny M A t Q E s)(hQ:∀a s,Q a s->Q' a s):wpAny M A t Q' E s:=wpAny_mono h hQ fun _ _ x=>x
end L2
namespace L2
open PySem PySem.Spec PyProof.Rows
section
variable {X:Cx}
def dn6 (i:Nat):TE:=fun σ H Q=>∃v,σ[i]? =some (some v)/\Q v H
def tC (v:V):TE:=fun _ H Q=>Q v H
theorem dn7 {i:Nat}{x:Str}{pos:Pos}(hN:X.N[i]? =some x)(hv:Vis X.env.scope x)(hd:(x==("__debug__":Str))=false:=by decide)(hcd:(x==("__classdict__":Str))=false:=by decide):PE X (.Name x pos) (dn6 i):=by
 intro pins s σ H Q I h;obtain ⟨v,e,h⟩:=h;obtain ⟨m,hn,hl⟩:=I.loc;obtain ⟨u,r,l⟩:=hl i x v hN e hv;have fin:EP X pins σ Q u s:=⟨v,H,I,r,h⟩
 rcases l with ⟨hk,hm⟩|⟨hk,c,hc,hcell⟩
 · exact wpAny_Name (wpAny_loadName_local I.ok.kind hk hn hm fin) hd
 · rcases hk with hk|hk
   · exact wpAny_Name (wpAny_loadName_cell I.ok.kind hk hc hcell fin) hd
   · exact wpAny_Name (wpAny_loadName_free I.ok.kind hk hc hcell fin hcd) hd
theorem h8 {i j pos}:PE X (.Constant (.int i) j pos) (tC (.int i)):=fun _ _ _ H _ I h=>wpAny_Constant_int ⟨.int i,H,I.tok _,⟨_,rfl⟩,h⟩
theorem K2 {b j pos}:PE X (.Constant (.bool b) j pos) (tC (.bl b)):=fun _ _ _ H _ I h=>Constant_bool ⟨.bl b,H,I,rfl,h⟩
theorem Z4 {j pos}:PE X (.Constant .none j pos) (tC .non):=fun _ _ _ H _ I h=>Constant_none ⟨.non,H,I,rfl,h⟩
theorem G3 {x j pos}:PE X (.Constant (.str x) j pos) (tC (.str x)):=fun _ _ _ H _ I h=>Calls.Constant_str ⟨.str x,H,I.tok _,⟨_,rfl⟩,h⟩
def Gl (X:Cx)(x:Str):Prop:=X.env.kindOf x=some .globalImplicit
theorem ap4 {E:Value->Shared->Prop}{pins:List (Addr×Obj)}{s:Shared}{σ:St}{H:Hp}{x:Str}{u:Value}{pos:Pos}{Q:Value->Shared->Prop}(I:i5 X pins σ H s)(hg:Gl X x)(hm:X.mg x=some u)(h:Q u s)
   (hd:(x==("__debug__":Str))=false:=by decide):wpAny (model X.prog X.w) X.A (eval (.Name x pos) X.env) Q E s:=
 Calls.Name_function_global I.ok.kind hg (Calls.loadGlobal_global (by rw[I.ok.glob];exact I.mod.glob.keeps I.bk) hm h) hd
theorem ap5 {E:Value->Shared->Prop}{pins:List (Addr×Obj)}{s:Shared}{σ:St}{H:Hp}{x:Str}{u:Value}{pos:Pos}{Q:Value->Shared->Prop}(I:i5 X pins σ H s)(hg:Gl X x)(hm:X.mg x=none)(hv:bootBuiltins x=some u)(h:Q u s)
   (hn:x≠"__name__":=by decide) (hd:(x==("__debug__":Str))=false:=by decide):wpAny (model X.prog X.w) X.A (eval (.Name x pos) X.env) Q E s:=by
 obtain ⟨mb,h1,h2⟩:=I.mod.blt;exact Calls.Name_function_global I.ok.kind hg (Calls.loadGlobal_builtin (by rw[I.ok.glob];exact I.mod.glob.keeps I.bk) hm (by rw[I.ok.blt];exact h1.keeps I.bk) ((h2 x hn).trans hv) h) hd
theorem N6 {x:Str}{v:V}{u:Value}{pos:Pos}(hg:Gl X x)(hm:X.mg x=some u)(r:o9 v u)(hd:(x==("__debug__":Str))=false:=by decide):PE X (.Name x pos) (tC v):=
 fun _ _ _ H _ I h=>ap4 I hg hm ⟨v,H,I,r,h⟩ hd
theorem bb2 {x:Str}{v:V}{u:Value}{pos:Pos}(hg:Gl X x)(hm:X.mg x=none)(hv:bootBuiltins x=some u)(r:o9 v u)(hn:x≠"__name__":=by decide)(hd:(x==("__debug__":Str))=false:=by decide):PE X (.Name x pos) (tC v):=
 fun _ _ _ H _ I h=>ap5 I hg hm hv ⟨v,H,I,r,h⟩ hn hd
variable {a b:Expr} {ta tb:TE} {pos:Pos}
def PC (X:Cx)(op:CmpOp)(a b:Expr)(t:TE):Prop:=
 ∀(pins:List (Addr×Obj)) (s:Shared) (σ:St) (H:Hp) (Q:VK),i5 X pins σ H s->t σ H Q->
  wpAny (model X.prog X.w) X.A (eval a X.env) (fun v s₁=>wpAny (model X.prog X.w) X.A (eval b X.env) (fun u s₂=>wpAny (model X.prog X.w) X.A (compareOp op v u) (EP X pins σ Q) X.xe s₂) X.xe s₁) X.xe s
def tB (t:TE):TT:=fun σ H Q=>t σ H fun x H1=>∃c,x= .bl c/\Q c H1
theorem ax9 {op:CmpOp}{t:TE}(h:PC X op a b t)(h1:behindInMarks op b=false:=by first|exact nobehind _ (by decide) (by decide)|rfl):PT X (.Compare a [op] [b] pos) (tB t):=by
 intro pins s σ H Q I hw;refine wpAny_isTrue_Compare1 (r6 (h pins s σ H _ I hw) fun v s1 h1=>r6 h1 fun u s2 h2=>r6 h2 fun c s3 ⟨x,H1,I1,r1,q1⟩=> ?_) h1;obtain ⟨d,rfl,q⟩:=q1;cases r1;exact wpAny_truthy_bool ⟨H1,I1,q⟩
theorem V7 {e:Expr}{t:TE}(h:PE X e t)(he:∀whole,isTrue e X.env whole=(do let v <-whole;standAt e.pos;holding [v] (truthy v)):=by intro _;rfl):PT X e (tB t):=by
 intro pins s σ H Q I hw;refine isTrue_plain (r6 (h pins s σ H _ I hw) fun v s1 ⟨x,H1,I1,r1,q1⟩=> ?_) (he _);obtain ⟨d,rfl,q⟩:=q1;cases r1;exact wpAny_truthy_bool ⟨H1,I1,q⟩
variable {tA tB':TT} {rest:List Expr}
def dy9 (t u:TT):TT:=fun σ H Q=>t σ H fun c H1=>if c=true then u σ H1 Q else Q false H1
def tOr (t u:TT):TT:=fun σ H Q=>t σ H fun c H1=>if c=true then Q true H1 else u σ H1 Q
def dz0 (t:TT):TT:=fun σ H Q=>t σ H fun c H1=>Q (!c) H1
theorem dh1 (ha:PT X a tA):PW X (.BoolOp .And [a] pos) tA:=by
 intro wh pins s σ H Q I h;refine isTrue_and (r6 (ha pins s σ H Q I h) fun c s1 e=> ?_)
 cases c with
 |true=>exact isTrue_and_nil e
 |false=>exact e
theorem S1 (ha:PT X a tA):PW X (.BoolOp .Or [a] pos) tA:=by
 intro wh pins s σ H Q I h;refine isTrue_or (r6 (ha pins s σ H Q I h) fun c s1 e=> ?_)
 cases c with
 |false=>exact isTrue_or_nil e
 |true=>exact e
theorem dn8 (ha:PT X a tA)(hb:PW X (.BoolOp .And (b::rest) pos) tB'):PW X (.BoolOp .And (a::b::rest) pos) (dy9 tA tB'):=by
 intro wh pins s σ H Q I h;refine isTrue_and (r6 (ha pins s σ H _ I h) fun c s1 ⟨H1,I1,q1⟩=> ?_)
 cases c with
 |true=>exact hb wh pins s1 σ H1 Q I1 q1
 |false=>exact ⟨H1,I1,q1⟩
theorem O0 (ha:PT X a tA)(hb:PW X (.BoolOp .Or (b::rest) pos) tB'):PW X (.BoolOp .Or (a::b::rest) pos) (tOr tA tB'):=by
 intro wh pins s σ H Q I h;refine isTrue_or (r6 (ha pins s σ H _ I h) fun c s1 ⟨H1,I1,q1⟩=> ?_)
 cases c with
 |true=>exact ⟨H1,I1,q1⟩
 |false=>exact hb wh pins s1 σ H1 Q I1 q1
theorem V8 (ha:PT X a tA):PT X (.UnaryOp .Not a pos) (dz0 tA):=by
 intro pins s σ H Q I h;exact isTrue_not (ha pins s σ H (fun c H1=>Q (!c) H1) I h)
def du0 (ta tb:TE):TE:=fun σ H Q=>ta σ H fun x H1=>∃c,x= .bl c/\if c=true then tb σ H1 Q else Q (.bl false) H1
def du1 (ta:TE):TE:=fun σ H Q=>ta σ H fun x H1=>∃c,x= .bl c/\Q (.bl (!c)) H1
theorem co6 {op}{t:TE}(h:PE X a t):PE X (.BoolOp op [a] pos) t:=fun pins s σ H Q I hw=>BoolOp_one (h pins s σ H Q I hw)
theorem co7 (ha:PE X a ta)(hb:PE X (.BoolOp .And (b::rest) pos) tb):PE X (.BoolOp .And (a::b::rest) pos) (du0 ta tb):=by
 intro pins s σ H Q I h;refine BoolOp_and (r6 (ha pins s σ H _ I h) fun v s1 ⟨x,H1,I1,r1,q1⟩=> ?_);obtain ⟨c,rfl,q1⟩:=q1;cases r1;refine wpAny_truthy_bool ?_
 cases c with
 |true=>exact hb pins s1 σ H1 Q I1 q1
 |false=>exact ⟨.bl false,H1,I1,rfl,q1⟩
theorem dn9 (ha:PE X a ta):PE X (.UnaryOp .Not a pos) (du1 ta):=by
 intro pins s σ H Q I h;refine UnaryOp_ (r6 (ha pins s σ H _ I h) fun v s1 ⟨x,H1,I1,r1,q1⟩=> ?_);obtain ⟨c,rfl,q1⟩:=q1;cases r1;exact not_of (wpAny_truthy_bool ⟨.bl (!c),H1,I1,rfl,q1⟩)
end
end L2
namespace L2
open PySem PySem.Spec PyProof.Rows
def g9 (K:PySem.W.Frag)(H:Hp)(a:Addr)(xs:List V):Prop:=
 Rd H a (.lst xs)\/
   ∃(o:Obj) (its:Array Value) (n:Nat),K.lookup a=some o/\o.cls= .type "list"/\o.dict=none/\o.data= .seq its n/\its.size<=sizeLine/\n6 xs its.toList
def R6 (K:PySem.W.Frag)(H:Hp)(a:Addr)(xs:List V):Prop:=
 Rd H a (.tup xs)\/
   ∃(o:Obj) (its:Array Value) (n:Nat),K.lookup a=some o/\o.cls= .type "tuple"/\o.data= .seq its n/\its.size<=sizeLine/\n6 xs its.toList
def dz1:Value->Option V
 | .none=>some .non
 | .bool b=>some (.bl b)
 | .int i _=>some (.int i)
 | .str x _=>some (.str x)
 | .bytes b _=>some (.byt b)
 | .float b _=>some (.flt b)
 | .ref a=>some (.ref a)
 | .type n=>some (.ty n)
 |_=>none
theorem o9.abs {x:V}{u:Value}(r:o9 x u):dz1 u=some x:=by
 cases x with
 |non=>cases r;rfl
 |bl _=>cases r;rfl
 |int _=>obtain ⟨t,rfl⟩:=r;rfl
 |str _=>obtain ⟨t,rfl⟩:=r;rfl
 |byt _=>obtain ⟨t,rfl⟩:=r;rfl
 |flt _=>obtain ⟨t,rfl⟩:=r;rfl
 |ref _=>cases r;rfl
 |ty _=>cases r;rfl
theorem o9.inj {x y:V}{u:Value}(r:o9 x u)(q:o9 y u):x=y:=Option.some.inj (r.abs.symm.trans q.abs)
theorem n6.inj:∀{xs ys:List V} {us:List Value},n6 xs us->n6 ys us->xs=ys
 |_,_,_,.nil,.nil=>rfl
 |_,_,_,.cons r t,.cons r' t'=>by rw[r.inj r',n6.inj t t']
section
variable {X:Cx} {pins:List (Addr×Obj)} {σ:St} {H:Hp} {s:Shared} {a:Addr} {xs ys:List V}
theorem g9.of {K:PySem.W.Frag}(h:H a=some (.lst xs)):g9 K H a xs:= .inl (.inl h)
theorem R6.of {K:PySem.W.Frag}(h:H a=some (.tup xs)):R6 K H a xs:= .inl (.inl h)
theorem i5.list (I:i5 X pins σ H s)(h:g9 X.K H a xs):∃its:List Value,n6 xs its/\PlainL s.heap a its.toArray/\xs.length<=sizeLine:=by
 rcases h with h|⟨o,its,n,hk,hc,hd,hs,hz,r⟩
 · obtain ⟨z,its,n,r,e⟩:=h.ok I.hok;exact ⟨its,r,⟨_,n,e,rfl,rfl,rfl⟩,z⟩
 · refine ⟨its.toList,r,⟨o,n,I.kIn a o hk,hc,hd,by simpa using hs⟩,?_⟩;have e:=r.length;simp only[ef7] at e;omega
theorem i5.tuple (I:i5 X pins σ H s)(h:R6 X.K H a xs):∃its:List Value,n6 xs its/\IsTup s.heap a its.toArray/\xs.length<=sizeLine:=by
 rcases h with h|⟨o,its,n,hk,hc,hs,hz,r⟩
 · obtain ⟨z,its,r,p⟩:=h.ok I.hok;exact ⟨its,r,p,z⟩
 · refine ⟨its.toList,r,⟨o,I.kIn a o hk,hc,n,by simpa using hs⟩,?_⟩;have e:=r.length;simp only[ef7] at e;omega
theorem i5.list_inj (I:i5 X pins σ H s)(h:g9 X.K H a xs)(h':g9 X.K H a ys):xs=ys:=by
 obtain ⟨its,r,⟨o,n,e,_,_,d⟩,_⟩:=I.list h;obtain ⟨its',r',⟨o',n',e',_,_,d'⟩,_⟩:=I.list h';rw[e] at e';cases e';rw[d] at d'
 injection d' with d1 _
 have:its=its':=by simpa using congrArg ei9 d1
 subst this;exact r.inj r'
theorem i5.tuple_inj (I:i5 X pins σ H s)(h:R6 X.K H a xs)(h':R6 X.K H a ys):xs=ys:=by
 obtain ⟨its,r,⟨o,e,_,n,d⟩,_⟩:=I.tuple h;obtain ⟨its',r',⟨o',e',_,n',d'⟩,_⟩:=I.tuple h';rw[e] at e';cases e';rw[d] at d'
 injection d' with d1 _
 have:its=its':=by simpa using congrArg ei9 d1
 subst this;exact r.inj r'
end
abbrev Cx.wish (X:Cx)(E:Value->Shared->Prop):Cx:={X with xe:=E}
abbrev Cx.nox (X:Cx):Cx:=X.wish fun _ _=>False
theorem Cx.Ok.wish {X:Cx}(ok:X.Ok)(E:Value->Shared->Prop):(X.wish E).Ok:=
 ⟨ok.mod,ok.kind,ok.glob,ok.blt,ok.above,ok.inj,ok.has,ok.cab,ok.hd,ok.frames,ok.stk,ok.exf,ok.bs,ok.bsz,ok.noex,ok.exfs,ok.funs,ok.frf⟩
theorem Cx.Ok.unwish {X:Cx}{E:Value->Shared->Prop}(ok:(X.wish E).Ok):X.Ok:=
 ⟨ok.mod,ok.kind,ok.glob,ok.blt,ok.above,ok.inj,ok.has,ok.cab,ok.hd,ok.frames,ok.stk,ok.exf,ok.bs,ok.bsz,ok.noex,ok.exfs,ok.funs,ok.frf⟩
section
variable {X:Cx} {pins:List (Addr×Obj)} {σ:St} {H:Hp} {s:Shared} {E:Value->Shared->Prop}
theorem i5.wish (I:i5 X pins σ H s)(E:Value->Shared->Prop):i5 (X.wish E) pins σ H s:=⟨I.ok.wish E,I.os,I.bare,I.base,I.loc,I.cell,I.free,I.freeC,I.pin,I.hok,I.len⟩
theorem i5.unwish (I:i5 (X.wish E) pins σ H s):i5 X pins σ H s:=⟨I.ok.unwish,I.os,I.bare,I.base,I.loc,I.cell,I.free,I.freeC,I.pin,I.hok,I.len⟩
theorem SP.unwish {D:W4}{f:Flow}{s':Shared}(h:SP (X.wish E) pins D f s'):SP X pins D f s':=by
 cases f with
 |next=>obtain ⟨σ',H',I,q⟩:=h;exact ⟨σ',H',I.unwish,q⟩
 |brk=>obtain ⟨σ',H',I,q⟩:=h;exact ⟨σ',H',I.unwish,q⟩
 |cont=>obtain ⟨σ',H',I,q⟩:=h;exact ⟨σ',H',I.unwish,q⟩
 |ret u=>obtain ⟨v,σ',H',I,r,q⟩:=h;exact ⟨v,σ',H',I.unwish,r,q⟩
theorem PSs.nox {st:List Stmt}{t:TS}(h:PSs X.nox st t):PSs X st t:=fun pins s σ H D I hw=>
 wpAny_mono (h pins s σ H D (I.wish _) hw) (fun _ _ q=>q.unwish) fun _ _ z=>False.elim z
end
section
variable {X:Cx} {st:Stmt} {rest:List Stmt} {t u:TS} {e:Expr} {te:TE} {pos:Pos}
def du2:TS:=fun D σ H=>D.nx σ H
def t9 (t u:TS):TS:=fun D σ H=>t {D with nx:=u D} σ H
theorem o7:PSs X [] du2:=fun _ _ σ H _ I h=>wpAny_execs_nil ⟨σ,H,I,h⟩
theorem c8 (h1:PS X st t)(h2:PSs X rest u):PSs X (st::rest) (t9 t u):=by
 intro pins s σ H D I h;refine wpAny_execs_cons (r6 (h1 pins s σ H {D with nx:=u D} I h) fun f s1 q=> ?_)
 cases f with
 |next=>
  obtain ⟨σ',H',I',q⟩:=q;exact h2 pins s1 σ' H' D I' q
 |ret v=>exact q
 |brk=>exact q
 |cont=>exact q
theorem g6 (h1:PS X st t):PSs X [st] t:=by
 intro pins s σ H D I h;refine wpAny_execs_cons (r6 (h1 pins s σ H D I h) fun f s1 q=> ?_)
 cases f with
 |next=>exact wpAny_execs_nil q
 |ret v=>exact q
 |brk=>exact q
 |cont=>exact q
theorem i5.quiet {pins:List (Addr×Obj)}{σ:St}{H:Hp}{s:Shared}(I:i5 X pins σ H s):interactive X.env=false:=by simp [interactive,I.ok.kind]
def du3 (te:TE):TS:=fun D σ H=>te σ H fun _ H1=>D.nx σ H1
theorem w9 (he:PE X e te)(hs:swapsWith e none pos.line X.env=pure false:=by rfl):PS X (.Expr e pos) (du3 te):=by
 intro pins s σ H D I h;exact wpAny_Expr_any (r6 (he pins s σ H _ I h) fun v s1 ⟨x,H1,I1,r1,q1⟩=>⟨σ,H1,I1,q1⟩) I.quiet hs
def dz2 (te:TE):TS:=fun D σ H=>te σ H D.rt
theorem j9 (he:PE X e te):PS X (.Return (some e) pos) (dz2 te):=by
 intro pins s σ H D I h;exact wpAny_Return_some (r6 (he pins s σ H _ I h) fun v s1 ⟨x,H1,I1,r1,q1⟩=>⟨x,σ,H1,I1,r1,q1⟩)
def dz3 (c:TT)(t u:TS):TS:=fun D σ H=>c σ H fun b H1=>if b=true then t D σ H1 else u D σ H1
theorem y8 {c:Expr}{a b:List Stmt}{tc:TT}(hc:PT X c tc)(ha:PSs X a t)(hb:PSs X b u):PS X (.If c a b pos) (dz3 tc t u):=by
 intro pins s σ H D I h;refine wpAny_If (r6 (hc pins s σ H _ I h) fun d s1 ⟨H1,I1,q1⟩=> ?_)
 cases d with
 |true=>exact ha pins s1 σ H1 D I1 q1
 |false=>exact hb pins s1 σ H1 D I1 q1
def co8:TS:=fun _ _ _=>False
theorem ar9:PS X st co8:=fun _ _ _ _ _ _ h=>h.elim
theorem an4 {sts:List Stmt}:PSs X sts co8:=fun _ _ _ _ _ _ h=>h.elim
end
abbrev TG:=V->St->Hp->(St->Hp->Prop)->Prop
abbrev TGs:=List V->St->Hp->(St->Hp->Prop)->Prop
def PG (X:Cx)(target:Expr)(t:TG):Prop:=
 ∀(pins:List (Addr×Obj)) (s:Shared) (σ:St) (H:Hp) (v:V) (u:Value) (Q:St->Hp->Prop),i5 X pins σ H s->o9 v u->t v σ H Q->
  wpAny (model X.prog X.w) X.A (assign target X.env u) (fun _ s'=>∃σ' H',i5 X pins σ' H' s'/\Q σ' H') X.xe s
def PGs (X:Cx)(ts:List Expr)(t:TGs):Prop:=
 ∀(pins:List (Addr×Obj)) (s:Shared) (σ:St) (H:Hp) (vs:List V) (us:List Value) (Q:St->Hp->Prop),i5 X pins σ H s->n6 vs us->t vs σ H Q->
  wpAny (model X.prog X.w) X.A (assignInOrder ((assignEach ts X.env).map (·.2)) us) (fun _ s'=>∃σ' H',i5 X pins σ' H' s'/\Q σ' H') X.xe s
abbrev cz3:=V->V->V->Hp->(Hp->Prop)->Prop
def do0 (X:Cx)(t:cz3):Prop:=
 ∀(pins:List (Addr×Obj)) (s:Shared) (σ:St) (H:Hp) (o i v:V) (ov iv u:Value) (Q:Hp->Prop),i5 X pins σ H s->o9 o ov->o9 i iv->o9 v u->t o i v H Q->
  wpAny (model X.prog X.w) X.A (setItem ov iv u) (fun _ s'=>∃H',i5 X pins σ H' s'/\Q H') X.xe s
section
variable {X:Cx} {pos:Pos}
def bh6 (i:Nat):TG:=fun v σ H Q=>Q (σ.set i (some v)) H
theorem i9 {i:Nat}{x:Str}(hN:X.N.Nodup)(hi:X.N[i]? =some x)(hx:Loc X.env.scope x)(hf:X.fn x=true\/X.env.scope.names.lookup x=some .local:=by first|exact .inl rfl|exact .inr rfl|assumption):PG X (.Name x pos) (bh6 i):=by
 intro pins s σ H v u Q I r h;exact wpAny_assign_Name (ae1 I hN hi hx r (fun s' I'=>⟨_,H,I',h⟩) hf)
def dz4:TGs:=fun vs σ H Q=>vs=[]/\Q σ H
def du4 (t:TG)(u:TGs):TGs:=fun vs σ H Q=>∃v r,vs=v::r/\t v σ H fun σ' H'=>u r σ' H' Q
theorem S2:PGs X [] dz4:=by
 intro pins s σ H vs us Q I r h;obtain ⟨e,h⟩:=h;subst e;cases r;exact assignInOrder_nil ⟨σ,H,I,h⟩
theorem A9 {e:Expr}{es:List Expr}{t:TG}{u:TGs}(h1:PG X e t)(h2:PGs X es u)
   (hs:(assignEach (e::es) X.env).map (·.2)=assign e X.env::(assignEach es X.env).map (·.2):=by rfl):PGs X (e::es) (du4 t u):=by
 intro pins s σ H vs us Q I r h;obtain ⟨v,vr,e1,h⟩:=h;subst e1
 cases r with
 |cons r rr=>
  rw[hs];refine assignInOrder_cons (r6 (h1 pins s σ H _ _ _ I r h) fun _ s1 ⟨σ1,H1,I1,q1⟩=> ?_);exact h2 pins s1 σ1 H1 _ _ Q I1 rr q1
def do1 (K:PySem.W.Frag)(n:Nat)(t:TGs):TG:=fun v σ H Q=>∃a xs,v= .ref a/\R6 K H a xs/\xs.length=n/\t xs σ H Q
theorem X0 {es:List Expr}{k:Nat}{t:TGs}{n:Nat}(hc:X.calm=true)(h:PGs X es t)
   (hn:(assignEach es X.env).length=n:=by rfl) (hst:(assignEach es X.env).findIdx? (·.1)=none:=by rfl):PG X (.Tuple es k pos) (do1 X.K n t):=by
 intro pins s σ H v u Q I r hw;obtain ⟨a,xs,e1,hq,hl,hw⟩:=hw;subst e1;cases r;obtain ⟨its,rv,ht,hz⟩:=I.tuple hq
 refine assign_Tuple_tuple (I.ok.hd hc) ht (by simp [hn,<-hl,rv.length]) hst fun h' hx=> ?_
 have I1:i5 X pins σ H {s with heap:=h'}:=I.kept (t':=s.toks) fun b o e=>hx b o (eh5 (Heap.lt_size e)) e
 exact h pins _ σ H xs _ Q I1 (by simpa using rv) hw
def dz5 (to ti:TE)(t:cz3):TG:=fun v σ H Q=>to σ H fun o H1=>ti σ H1 fun i H2=>t o i v H2 fun H3=>Q σ H3
theorem ap6 {o i:Expr}{to ti:TE}{t:cz3}(ho:PE X o to)(hi:PE X i ti)(hs:do0 X t)
   (ha:∀v,assign (.Subscript o i pos) X.env v=(do
     let ov <-holding [v] (eval o X.env)
     let iv <-holding [v,ov] (eval i X.env)
     standAt pos
     holding [v,ov,iv] (setItem ov iv v)
     release [v,ov,iv] []):=by intro _;rfl):PG X (.Subscript o i pos) (dz5 to ti t):=by
 intro pins s σ H v u Q I r h;rw[ha];refine wpAny_bind (wpAny_holding (r6 (ho pins s σ H _ I h) fun ov s1 ⟨x,H1,I1,r1,q1⟩=> ?_));refine wpAny_bind (wpAny_holding (r6 (hi pins s1 σ H1 _ I1 q1) fun iv s2 ⟨y,H2,I2,r2,q2⟩=> ?_));refine wpAny_bind (wpAny_standAt (wpAny_bind (wpAny_holding (r6 (hs pins s2 σ H2 x y v ov iv u _ I2 r1 r2 r q2) fun _ s3 ⟨H3,I3,q3⟩=> ?_))));exact wpAny_release ⟨σ,H3,I3,q3⟩
def ck7 (te:TE)(g:TG):TS:=fun D σ H=>te σ H fun x H1=>g x σ H1 D.nx
theorem ak5 {tg e:Expr}{te:TE}{g:TG}(he:PE X e te)(hg:PG X tg g)(hs:swapsWithSole [tg] e pos.line X.env=pure false:=by rfl)(hw:swappedStores [tg] e X.env=pure none:=by rfl)
   (h1:(assignEach [tg] X.env).map (·.2)=[assign tg X.env]:=by rfl):PS X (.Assign [tg] e pos) (ck7 te g):=by
 intro pins s σ H D I h;refine wpAny_Assign_stores (r6 (he pins s σ H _ I h) fun v s1 ⟨x,H1,I1,r1,q1⟩=> ?_) hs hw;rw[h1]
 exact r6 (hg pins s1 σ H1 x v _ I1 r1 q1) fun _ s2 q=>q
theorem i4 {i:Nat}{x:Str}{e:Expr}{te:TE}{pos':Pos}(hN:X.N.Nodup)(hi:X.N[i]? =some x)(hx:Loc X.env.scope x)(he:PE X e te)(hs:swapsWith e (some (.Name x pos')) pos.line X.env=pure false:=by rfl)(hf:X.fn x=true\/X.env.scope.names.lookup x=some .local:=by first|exact .inl rfl|exact .inr rfl|assumption):
   PS X (.Assign [.Name x pos'] e pos) (ck7 te (bh6 i)):=by
 intro pins s σ H D I h;refine wpAny_Assign_Name (r6 (he pins s σ H _ I h) fun v s1 ⟨y,H1,I1,r1,q1⟩=> ?_) hs;exact ae1 I1 hN hi hx r1 (fun s2 I2=>⟨_,H1,I2,q1⟩) hf
def dz6 (i j:Nat)(ta:TA):TS:=fun D σ H=>ta σ H fun vs H1=>∃v w,vs=[v,w]/\D.nx ((σ.set i (some v)).set j (some w)) H1
theorem do2 {i j:Nat}{x y:Str}{a b:Expr}{ta:TA}{px py pt:Pos}{kt k2 pt2}(hc:X.calm=true)(hN:X.N.Nodup)(hi:X.N[i]? =some x)(hj:X.N[j]? =some y)(hij:i≠j)
   (hx:X.env.scope.names.lookup x=some .local) (hy:X.env.scope.names.lookup y=some .local) (ha:PA X [a,b] ta)
   (hw:swappedStores [.Tuple [.Name x px,.Name y py] kt pt] (.Tuple [a,b] k2 pt2) X.env=pure (some [x,y]))
   (hs:swapsWithSole [.Tuple [.Name x px,.Name y py] kt pt] (.Tuple [a,b] k2 pt2) pos.line X.env=pure false:=by rfl):
   PS X (.Assign [.Tuple [.Name x px,.Name y py] kt pt] (.Tuple [a,b] k2 pt2) pos) (dz6 i j ta):=by
 intro pins s σ H D I h;rw[exec_Assign_arm];refine wpAny_bind (wpAny_standAt ?_);rw[hs];refine wpAny_bind (wpAny_pure ?_);rw[if_neg (by decide)];refine wpAny_bind (Tuple_ (r6 (ha _ pins s σ H _ I h) fun us s1 ⟨vs,H1,I1,r1,q1⟩=> ?_));obtain ⟨v,w,e1,q1⟩:=q1;subst e1
 obtain ⟨u1,u2,rfl,rv,rw'⟩:∃u1 u2,us=[u1,u2]/\o9 v u1/\o9 w u2:=by
   cases r1 with
   |cons p q=>
    cases q with
    |cons p' q'=>
     cases q';exact ⟨_,_,rfl,p,p'⟩
 refine wpAny_newObj_type ?_ (by show 2<=sizeLine;decide)
 have I2:i5 X pins σ H1 {s1 with heap:=s1.heap.push {cls:= .type "tuple",data:= .seq [u1,u2].toArray}}:=I1.kept (t':=s1.toks) fun b o e=>Heap.get?_push_of_some _ e
 rw[hw];refine wpAny_bind (wpAny_pure ?_);show wpAny (model X.prog X.w) X.A (do rule "assign.swapped-stores";let items <-unpackItems (.ref s1.heap.objs.size) 2 none;assignInOrder [fun v=>bindName X.env y v,fun v=>bindName X.env x v] items.reverse;pure Flow.next) _ _ _;refine wpAny_bind (wpAny_rule (wpAny_bind (unpackItems_tuple (items:= #[u1,u2]) (I.ok.hd hc) (IsTup.new s1.heap _) fun h' hx'=> ?_)))
 have I3:=I2.kept (h':=h') (t':=s1.toks) fun b o e=>hx' b o (eh5 (Heap.lt_size e)) e
 show wpAny _ _ (assignInOrder [fun v=>bindName X.env y v,fun v=>bindName X.env x v] [u2,u1] >>=fun _=>pure Flow.next) _ _ _;refine wpAny_bind (assignInOrder_cons (wpAny_bindName (ae1 I3 hN hj (.inl hy) rw' (fun s2 I4=> ?_) (.inr hy))));refine assignInOrder_cons (wpAny_bindName (ae1 I4 hN hi (.inl hx) rv (fun s3 I5=>assignInOrder_nil (wpAny_pure ?_)) (.inr hx)));rw[List.set_comm _ _ (Ne.symm hij)] at I5;exact ⟨_,H1,I5,q1⟩
end
section
variable {X:Cx} {pos:Pos}
def cp0 (c:TT)(tb:TS):TS:=fun D σ H=>∃W:Nat->St->Hp->Prop,(∃m,W m σ H)/\∀m σ H,W m σ H->
 c σ H fun b H1=>if b=true then ∃N:St->Hp->Prop,(∀σ' H',N σ' H'->∃m',m' < m/\W m' σ' H')/\tb {D with nx:=N,ct:=N,bk:=D.nx} σ H1 else D.nx σ H1
theorem ae2 {c:Expr}{body:List Stmt}{tc:TT}{tb:TS}(hp:PassesOwn (model X.prog X.w) X.A X.env X.xe)(hc:PT X c tc)(hb:PSs X body tb):PS X (.While c body [] pos) (cp0 tc tb):=by
 intro pins s σ H D I h;obtain ⟨W,⟨m0,w0⟩,turn⟩:=h;refine wpAny_While (codeAny_whileLoop (fun n s'=>∃σ' H',i5 X pins σ' H' s'/\W n σ' H') ?_ m0 ⟨σ,H,I,w0⟩);rintro n s1 ⟨σ1,H1,I1,w1⟩;refine wpAny_passesOwn hp (r6 (hc pins s1 σ1 H1 _ I1 (turn n σ1 H1 w1)) fun b s2 ⟨H2,I2,q2⟩=> ?_)
 cases b with
 |true=>
  obtain ⟨N,hN,q2⟩:=q2;rw[if_pos rfl];refine wpAny_passesOwn hp (r6 (hb pins s2 σ1 H2 _ I2 q2) fun f s3 q3=> ?_)
  cases f with
  |next=>
   obtain ⟨σ3,H3,I3,n3⟩:=q3;obtain ⟨m',hm,w3⟩:=hN σ3 H3 n3;exact ⟨m',hm,σ3,H3,I3,w3⟩
  |cont=>
   obtain ⟨σ3,H3,I3,n3⟩:=q3;obtain ⟨m',hm,w3⟩:=hN σ3 H3 n3;exact ⟨m',hm,σ3,H3,I3,w3⟩
  |brk=>exact q3
  |ret v=>exact q3
 |false=>
  rw[if_neg ef3];exact wpAny_execs_nil ⟨σ1,H2,I2,q2⟩
end
structure It where
 go:Nat->Hp->Prop
 yld:Nat->Hp->V->Hp->Prop
 stop:Nat->Hp->Prop
def ay0 (X:Cx)(pins:List (Addr×Obj))(H:Hp)(b:Addr):Prop:=
 H b=none/\b≠X.env.locals/\b∉X.fs/\(b∈X.ex\/X.s₀.heap.objs.size<=b)/\(∀x c,X.env.cells.lookup x=some c->c≠b)/\∀p∈X.pn++pins,p.1≠b
theorem i5.fpOk {X:Cx}{pins:List (Addr×Obj)}{σ:St}{H H':Hp}{s:Shared}{b:Addr}(I:i5 X pins σ H s)(hb:s.heap.objs.size<=b)(hn:H' b=none):ay0 X pins H' b:=by
 refine ⟨hn,Nat.ne_of_gt (eg2 I.lt hb),I.nofs hb,.inr (ee6 I.sz hb),fun x c e z=> ?_,fun p hp z=> ?_⟩
 · obtain ⟨v,q⟩:=I.cell x c e;exact absurd (eg2 q.lt (by rw[z];exact hb)) (en4 _)
 · exact absurd (eg2 (Heap.lt_size (I.pin p hp).1) (by rw[z];exact hb)) (en4 _)
structure bm1 (P:Program)(w:World)(K:PySem.W.Frag)(tg:Expr)(J:It)(fp:List Addr)(it:Addr)(tn:Nat->Heap->Prop):Prop where
 mem:it∈fp
 obj:∀i h,tn i h->∀b∈fp,∃o,h.get? b=some o/\∀v,o.data≠.cell v
 keep:∀i h h',tn i h->(∀b∈fp,∀o,h.get? b=some o->h'.get? b=some o)->tn i h'
 item:∀(X:Cx),X.prog=P->X.w=w->X.K=K->X.calm=true->∀(i:Nat) (pins:List (Addr×Obj)) (s:Shared) (σ:St) (H:Hp) (E:Value->Shared->Prop),i5 X pins σ H s->(∀b∈fp,ay0 X pins H b)->tn i s.heap->J.go i H->
   wpAny (model P w) X.A (pyNext (.ref it)) (fun r s1=>∃u,r=some u/\
     wpAny (model P w) X.A (letOwnedTupleGo tg (.ref it) u) (fun _ s2=>∃x H',i5 X pins σ H' s2/\o9 x u/\J.yld i H x H'/\tn (i+1) s2.heap/\∀b∈fp,H' b=none) E s1) E s
 done:∀(X:Cx),X.prog=P->X.w=w->X.K=K->X.calm=true->∀(i:Nat) (pins:List (Addr×Obj)) (s:Shared) (σ:St) (H:Hp) (E:Value->Shared->Prop),i5 X pins σ H s->(∀b∈fp,ay0 X pins H b)->tn i s.heap->J.stop i H->
   wpAny (model P w) X.A (pyNext (.ref it)) (fun r s1=>r=none/\i5 X pins σ H s1) E s
 self:∀(A:Around) (i:Nat) (s:Shared) (Q:Value->Shared->Prop) (E:Value->Shared->Prop),tn i s.heap->Q (.ref it) s->wpAny (model P w) A (pyIter (.ref it)) Q E s
abbrev TI:=St->Hp->(It->Hp->Prop)->Prop
def PIE (X:Cx)(pins:List (Addr×Obj))(σ:St)(tg:Expr)(R:It->Hp->Prop)(itv:Value)(s2:Shared):Prop:=
 ∃(it:Addr) (fp:List Addr) (tn:Nat->Heap->Prop) (J:It) (H':Hp),itv= .ref it/\i5 X pins σ H' s2/\bm1 X.prog X.w X.K tg J fp it tn/\tn 0 s2.heap/\(∀b∈fp,ay0 X pins H' b)/\R J H'
def PI (X:Cx)(tg iter:Expr)(wi:TI):Prop:=
 ∀(pins:List (Addr×Obj)) (s:Shared) (σ:St) (H:Hp) (R:It->Hp->Prop),i5 X pins σ H s->wi σ H R->
  wpAny (model X.prog X.w) X.A (eval iter X.env) (fun v s1=>wpAny (model X.prog X.w) X.A (pyIter v) (PIE X pins σ tg R) X.xe s1) X.xe s
theorem bv7 {M:Model}{A:Around}{E:Value->Shared->Prop}{s:Shared}{tg:Expr}{it:Addr}{u:Value}{o:Obj}{n:String}{vs:Array Value}{Q:Unit->Shared->Prop}(ho:s.heap.get? it=some o)(hc:o.cls= .type n)(hd:o.data= .fields vs)
   (hn:["enumerate","zip","dict_itemiterator","dict_reverseitemiterator","odict_iterator","itertools.zip_longest","itertools.pairwise"].contains n=false) (hQ:Q () s):wpAny M A (letOwnedTupleGo tg (.ref it) u) Q E s:=by
 unfold letOwnedTupleGo
 cases tg<;>first
   |exact wpAny_pure hQ
   |(cases u<;>first
       |exact wpAny_pure hQ
       |(refine wpAny_bind (wpAny_load ho ?_)
         rw[hc,hd];show wpAny M A (if (["enumerate","zip","dict_itemiterator","dict_reverseitemiterator","odict_iterator","itertools.zip_longest","itertools.pairwise"].contains n&&vs[0]? ==some (rawInt _))=true then _ else _) Q E s;rw[if_neg (by intro h;rw[hn,Bool.false_and] at h;cases h)]
         exact wpAny_pure hQ))
def Itl (K:PySem.W.Frag)(a:Addr):It:=
 ⟨fun i H=>∃xs x,g9 K H a xs/\xs[i]? =some x,fun i H x H'=>H'=H/\∀xs,g9 K H a xs->xs[i]? =some x,fun i H=>∃xs,g9 K H a xs/\xs.length<=i⟩
def Itt (K:PySem.W.Frag)(a:Addr):It:=
 ⟨fun i H=>∃xs x,R6 K H a xs/\xs[i]? =some x,fun i H x H'=>H'=H/\∀xs,R6 K H a xs->xs[i]? =some x,fun i H=>∃xs,R6 K H a xs/\xs.length<=i⟩
def Itr (lo:Int)(n:Nat):It:=⟨fun i _=>i < n,fun i H x H'=>H'=H/\x= .int (lo+i),fun i _=>n<=i⟩
theorem cp2 {P:Program}{w:World}{K:PySem.W.Frag}{tg:Expr}(a it:Addr):bm1 P w K tg (Itl K a) [it] it (fun i h=>h.IsListIter it a i) where
 mem:=by simp
 obj:=fun i h st b hb=>by
   have e:b=it:=by simpa using hb
   subst e;obtain ⟨o,e,c,d⟩:=st;exact ⟨o,e,fun v z=>by rw[d] at z;cases z⟩
 keep:=fun i h h' st k=>st.at fun o e=>k it (by simp) o e
 item:=by
   intro X hP hw hK hc i pins s σ H E I hf st hg;subst hP hw hK;obtain ⟨xs,x,hq,hx⟩:=hg;obtain ⟨its,rv,p,hz⟩:=I.list hq;obtain ⟨u,hu,ru⟩:=rv.get hx;obtain ⟨f0,f1,f2,f3,f4,f5⟩:=hf it (by simp)
   refine wpAny_pyNext_list_item st p.isList (x:=u) (by simpa using hu) fun h' st' sb=> ?_
   have I1:i5 X pins σ H {s with heap:=h'}:=I.turned (t':=s.toks) (fun b o hb e=>(sb.2 b hb).trans e) f0 f1 f3 f4 f5;obtain ⟨o,e,c,d⟩:=id st';exact ⟨u,rfl,bv7 (s:={s with heap:=h'}) e c d (by decide) ⟨x,H,I1,ru,⟨rfl,fun ys hy=>by rw[I.list_inj hy hq];exact hx⟩,st',fun b hb=>(hf b hb).1⟩⟩
 done:=by
   intro X hP hw hK hc i pins s σ H E I hf st hg;subst hP hw hK;obtain ⟨xs,hq,hx⟩:=hg;obtain ⟨its,rv,p,hz⟩:=I.list hq;obtain ⟨f0,f1,f2,f3,f4,f5⟩:=hf it (by simp);have hl:=rv.length
   exact wpAny_pyNext_list_end (I.ok.hd hc) st p.isList (by simp;omega) fun h' eb=>⟨rfl,I.turned (t':=s.toks) (fun b o hb e=>eb b o hb e) f0 f1 f3 f4 f5⟩
 self:=fun _ _ _ _ _ st h=>wpAny_pyIter_listiter st h
theorem ck8 {P:Program}{w:World}{K:PySem.W.Frag}{tg:Expr}(a it:Addr):bm1 P w K tg (Itt K a) [it] it (fun i h=>h.IsTupleIter it a i) where
 mem:=by simp
 obj:=fun i h st b hb=>by
   have e:b=it:=by simpa using hb
   subst e;obtain ⟨o,e,c,d⟩:=st;exact ⟨o,e,fun v z=>by rw[d] at z;cases z⟩
 keep:=fun i h h' st k=>st.at fun o e=>k it (by simp) o e
 item:=by
   intro X hP hw hK hc i pins s σ H E I hf st hg;subst hP hw hK;obtain ⟨xs,x,hq,hx⟩:=hg;obtain ⟨its,rv,p,hz⟩:=I.tuple hq;obtain ⟨u,hu,ru⟩:=rv.get hx;obtain ⟨f0,f1,f2,f3,f4,f5⟩:=hf it (by simp)
   refine wpAny_pyNext_tuple_item st (show s.heap.IsTuple a its.toArray from p) (x:=u) (by simpa using hu) fun h' st' sb=> ?_
   have I1:i5 X pins σ H {s with heap:=h'}:=I.turned (t':=s.toks) (fun b o hb e=>(sb.2 b hb).trans e) f0 f1 f3 f4 f5;obtain ⟨o,e,c,d⟩:=id st';exact ⟨u,rfl,bv7 (s:={s with heap:=h'}) e c d (by decide) ⟨x,H,I1,ru,⟨rfl,fun ys hy=>by rw[I.tuple_inj hy hq];exact hx⟩,st',fun b hb=>(hf b hb).1⟩⟩
 done:=by
   intro X hP hw hK hc i pins s σ H E I hf st hg;subst hP hw hK;obtain ⟨xs,hq,hx⟩:=hg;obtain ⟨its,rv,p,hz⟩:=I.tuple hq;obtain ⟨f0,f1,f2,f3,f4,f5⟩:=hf it (by simp);have hl:=rv.length
   exact wpAny_pyNext_tuple_end (I.ok.hd hc) st (show s.heap.IsTuple a its.toArray from p) (by simp;omega) fun h' eb=>⟨rfl,I.turned (t':=s.toks) (fun b o hb e=>eb b o hb e) f0 f1 f3 f4 f5⟩
 self:=fun _ _ _ _ _ st h=>wpAny_pyIter_tupleiter st h
theorem ck9 {P:Program}{w:World}{K:PySem.W.Frag}{tg:Expr}(it:Addr)(lo:Int)(n:Nat):bm1 P w K tg (Itr lo n) [it] it (fun i h=>IsRangeIter h it (lo+(i:Nat)*1) ((n:Int) - (i:Nat)) 1) where
 mem:=by simp
 obj:=fun i h st b hb=>by
   have e:b=it:=by simpa using hb
   subst e
   exact ⟨_,st,fun v z=>by
     have z':Data.fields _=Data.cell v:=z
     cases z'⟩
 keep:=fun i h h' st k=>k it (by simp) _ st
 item:=by
   intro X hP hw hK hc i pins s σ H E I hf st hg;subst hP hw hK;obtain ⟨f0,f1,f2,f3,f4,f5⟩:=hf it (by simp);have W:=Walks.range (prog:=X.prog) (w:=X.w) (I.ok.hd hc) it lo 1 n
   refine W.item i s _ _ hg st fun v h' tk hv st' kk=> ?_
   obtain ⟨t,rfl⟩:=hv;have I1:i5 X pins σ H {s with heap:=h',toks:=tk}:=I.turned (fun b o hb e=>kk b o (by simpa using hb) e) f0 f1 f3 f4 f5;refine ⟨_,rfl,bv7 (s:={s with heap:=h',toks:=tk}) (n:="range_iterator") st' rfl rfl (by decide) ⟨.int (lo+i),H,I1,⟨t,?_⟩,⟨rfl,rfl⟩,st',fun b hb=>(hf b hb).1⟩⟩;rw[ex8]
 done:=by
   intro X hP hw hK hc i pins s σ H E I hf st hg;subst hP hw hK;obtain ⟨f0,f1,f2,f3,f4,f5⟩:=hf it (by simp)
   exact wpAny_pyNext_range_end (I.ok.hd hc) st (by have:n<=i:=hg;omega) fun h' eb=>⟨rfl,I.turned (t':=s.toks) (fun b o hb e=>eb b o hb e) f0 f1 f3 f4 f5⟩
 self:=fun _ _ _ _ _ st h=>wpAny_pyIter_rangeiter st h
end L2
namespace L2
open PySem PySem.Spec PyProof.Rows
section
variable {X:Cx} {tg:Expr}
def du5 (K:PySem.W.Frag)(tl:TE):TI:=fun σ H R=>tl σ H fun x H1=>∃a,x= .ref a/\(∃xs,g9 K H1 a xs)/\R (Itl K a) H1
def do3 (K:PySem.W.Frag)(tl:TE):TI:=fun σ H R=>tl σ H fun x H1=>∃a,x= .ref a/\(∃xs,R6 K H1 a xs)/\R (Itt K a) H1
theorem B8 {l:Expr}{tl:TE}(hl:PE X l tl):PI X tg l (du5 X.K tl):=by
 intro pins s σ H R I h
 refine r6 (hl pins s σ H _ I h) fun v s1 ⟨x,H1,I1,r1,q1⟩=> ?_
 obtain ⟨a,e,⟨xs,hq⟩,q⟩:=q1;subst e;cases r1;obtain ⟨its,rv,p,hz⟩:=I1.list hq;refine wpAny_pyIter_list p.isList ?_;refine ⟨s1.heap.objs.size,[s1.heap.objs.size],_,_,H1,rfl,I1.kept (t':=s1.toks) fun b o e=>Heap.get?_push_of_some _ e,cp2 a _,⟨_,Heap.get?_push_size _ rfl,rfl,rfl⟩,fun b hb=> ?_,q⟩
 have e:b=s1.heap.objs.size:=by simpa using hb
 subst e;exact I1.fpOk (ed5 _) (I1.hok.fresh (ed5 _))
theorem do4 {l:Expr}{tl:TE}(hl:PE X l tl):PI X tg l (do3 X.K tl):=by
 intro pins s σ H R I h
 refine r6 (hl pins s σ H _ I h) fun v s1 ⟨x,H1,I1,r1,q1⟩=> ?_
 obtain ⟨a,e,⟨xs,hq⟩,q⟩:=q1;subst e;cases r1;obtain ⟨its,rv,p,hz⟩:=I1.tuple hq;refine wpAny_pyIter_tuple (show s1.heap.IsTuple a its.toArray from p) ?_;refine ⟨s1.heap.objs.size,[s1.heap.objs.size],_,_,H1,rfl,I1.kept (t':=s1.toks) fun b o e=>Heap.get?_push_of_some _ e,ck8 a _,⟨_,Heap.get?_push_size _ rfl,rfl,rfl⟩,fun b hb=> ?_,q⟩
 have e:b=s1.heap.objs.size:=by simpa using hb
 subst e;exact I1.fpOk (ed5 _) (I1.hok.fresh (ed5 _))
theorem bw4 {pins:List (Addr×Obj)}{σ:St}{H:Hp}{s:Shared}{R:It->Hp->Prop}{E:Value->Shared->Prop}{lo hi:Int}{t u v:Tok}{tk:Nat}(I:i5 X pins σ H s)(h1: -(2^62)<=lo)(h2:lo < 2^62)(h3: -(2^62)<=hi)(h4:hi < 2^62)
   (q:R (Itr lo (hi - lo).toNat) H):wpAny (model X.prog X.w) X.A (pyIter (.ref s.heap.objs.size)) (PIE X pins σ tg R) E {s with heap:=s.heap.push {cls:= .type "range",data:= .fields #[.int lo t,.int hi u,.int 1 v]},toks:=tk}:=by
 refine wpAny_pyIter_range (IsRange.new ..) (small_one h1 h2 h3 h4) ?_
 have I1:i5 X pins σ H {s with heap:=s.heap.push {cls:= .type "range",data:= .fields #[.int lo t,.int hi u,.int 1 v]},toks:=tk}:=I.kept fun b o e=>Heap.get?_push_of_some _ e
 refine ⟨(s.heap.push {cls:= .type "range",data:= .fields #[.int lo t,.int hi u,.int 1 v]}).objs.size,[(s.heap.push {cls:= .type "range",data:= .fields #[.int lo t,.int hi u,.int 1 v]}).objs.size],_,_,H,rfl,
   I1.kept (t':=tk) fun b o e=>Heap.get?_push_of_some _ e,ck9 _ lo (hi - lo).toNat,?_,fun b hb=> ?_,q⟩
 · have e1:lo+((0:Nat):Int)*1=lo:=by simp
   have e2:(((hi - lo).toNat:Nat):Int) - ((0:Nat):Int)=Builtin.Range.rangeSize lo hi 1:=by rw[rangeSize_one];split<;>omega
   show IsRangeIter _ _ (lo+((0:Nat):Int)*1) ((((hi - lo).toNat:Nat):Int) - ((0:Nat):Int)) 1;rw[e1,e2];exact Heap.get?_push_size _ rfl
 · have e:b=(s.heap.push {cls:= .type "range",data:= .fields #[.int lo t,.int hi u,.int 1 v]}).objs.size:=by simpa using hb
   subst e;exact I1.fpOk (ed5 _) (I1.hok.fresh (ed5 _))
def du6 (ta:TA):TI:=fun σ H R=>ta σ H fun vs H1=>∃j:Int,vs=[.int j]/\ -(2^62)<=j/\j < 2^62/\R (Itr 0 j.toNat) H1
def du7 (ta:TA):TI:=fun σ H R=>ta σ H fun vs H1=>∃i j:Int,vs=[.int i,.int j]/\(-(2^62)<=i/\i < 2^62/\ -(2^62)<=j/\j < 2^62)/\R (Itr i (j - i).toNat) H1
theorem Q6 {a:Expr}{ta:TA}{p pos:Pos}(hg:Gl X "range")(hm:X.mg "range"=none)(ha:PA X [a] ta)(hs:starEach [a] X.env=[(false,eval a X.env)]:=by rfl):PI X tg (.Call (.Name "range" p) [a] [] pos) (du6 ta):=by
 intro pins s σ H R I h;refine Call_ (ap5 I hg hm boot_range (PyProof.Rows.callWith_type1 (r6 (ha pos pins s σ H _ I h) fun us s1 ⟨vs,H1,I1,r1,q1⟩=> ?_) hs rfl));obtain ⟨j,e,q1,q2,q⟩:=q1;subst e
 cases r1 with
 |cons r rr=>
  cases rr;obtain ⟨t,rfl⟩:=r;exact call_range_1 (bw4 I1 (by omega) (by omega) q1 q2 (by simpa using q))
theorem U5 {a b:Expr}{ta:TA}{p pos:Pos}(hg:Gl X "range")(hm:X.mg "range"=none)(ha:PA X [a,b] ta)(hs:starEach [a,b] X.env=[(false,eval a X.env),(false,eval b X.env)]:=by rfl)(hs2:starEach [b] X.env=[(false,eval b X.env)]:=by rfl):
   PI X tg (.Call (.Name "range" p) [a,b] [] pos) (du7 ta):=by
 intro pins s σ H R I h;refine Call_ (ap5 I hg hm boot_range (PyProof.Rows.callWith_type1 (r6 (ha pos pins s σ H _ I h) fun us s1 ⟨vs,H1,I1,r1,q1⟩=> ?_) (by rw[hs,hs2]) (by rw[hs2];rfl)));obtain ⟨i,j,e,⟨q1,q2,q3,q4⟩,q⟩:=q1;subst e
 cases r1 with
 |cons r rr=>
  cases rr with
  |cons r' rr=>
   cases rr;obtain ⟨t,rfl⟩:=r;obtain ⟨t',rfl⟩:=r';exact call_range_2 (bw4 I1 q1 q2 q3 q4 q)
def do5 (wi:TI)(g:TG)(tb:TS):TS:=fun D σ H=>wi σ H fun J H1=>∃W:Nat->Nat->St->Hp->Prop,(∃m,W 0 m σ H1)/\∀i m σ H,W i m σ H->
 (J.stop i H/\D.nx σ H)\/(J.go i H/\∃N:St->Hp->Prop,(∀σ' H',N σ' H'->∃m',m' < m/\W (i+1) m' σ' H')/\∀x H',J.yld i H x H'->g x σ H' fun σ2 H2=>tb {D with nx:=N,ct:=N,bk:=D.nx} σ2 H2)
def ak6 (fp:List Addr)(h:Heap):List (Addr×Obj):=fp.filterMap fun b=>(h.get? b).map fun o=>(b,o)
theorem aj1 {fp:List Addr}{h:Heap}{b:Addr}{o:Obj}(hb:b∈fp)(e:h.get? b=some o):(b,o)∈ak6 fp h:=eu5.mpr ⟨b,hb,by rw[e];rfl⟩
theorem bq6 {fp:List Addr}{h:Heap}{p:Addr×Obj}(hp:p∈ak6 fp h):p.1∈fp/\h.get? p.1=some p.2:=by
 obtain ⟨b,hb,e⟩:=eu5.mp hp
 cases q:h.get? b with
 |none=>rw[q] at e;cases e
 |some o=>
  rw[q] at e;have e':(b,o)=p:=Option.some.inj e;subst e';exact ⟨hb,q⟩
theorem i5.pinned {pins:List (Addr×Obj)}{σ:St}{H:Hp}{s:Shared}{fp:List Addr}(I:i5 X pins σ H s)(hf:∀b∈fp,ay0 X pins H b)(ho:∀b∈fp,∃o,s.heap.get? b=some o/\∀v,o.data≠.cell v):i5 X (pins++ak6 fp s.heap) σ H s:=
 I.pins_of fun p hp=>(ee2.mp hp).elim (fun z=>I.pin p (ef1 _ z)) fun z=>by
   obtain ⟨hb,e⟩:=bq6 z;obtain ⟨f0,f1,f2,_⟩:=hf p.1 hb;obtain ⟨o,e',d⟩:=ho p.1 hb;rw[e] at e';cases e';exact ⟨e,f0,f1,f2,d⟩
theorem i5.unpinned {pins pl:List (Addr×Obj)}{σ:St}{H:Hp}{s:Shared}(I:i5 X (pins++pl) σ H s):i5 X pins σ H s:=I.pins_of fun p hp=>I.pin p (ef1 _ (eh8 _ hp))
theorem q0 {iter:Expr}{body:List Stmt}{wi:TI}{g:TG}{tb:TS}{pos:Pos}(hp:PassesOwn (model X.prog X.w) X.A X.env X.xe)(hc:X.calm=true)(hi:PI X tg iter wi)(hg:PG X tg g)(hb:PSs X body tb)
   (hs:∀x,foldedSetIterable iter X.env x=pure x:=by intro _;rfl):PS X (.For tg iter body [] pos) (do5 wi g tb):=by
 intro pins s σ H D I h;refine wpAny_For (r6 (hi pins s σ H _ I h) fun v s1 h1=>r6 h1 fun itv s2 h2=> ?_) hs;obtain ⟨it,fp,tn,J,H2,e,I2,T,st2,f2,W,⟨m0,w0⟩,turn⟩:=h2;subst e
 have stat:∀{H':Hp},(∀b∈fp,H' b=none)->∀b∈fp,ay0 X pins H' b:=fun hn b hb=>⟨hn b hb,(f2 b hb).2⟩
 refine codeAny_forLoop_any (fun n s'=>∃i σ' H',i5 X pins σ' H' s'/\tn i s'.heap/\(∀b∈fp,H' b=none)/\W i n σ' H') ?_ m0 ⟨0,σ,H2,I2,st2,fun b hb=>(f2 b hb).1,w0⟩;rintro n s3 ⟨i,σ3,H3,I3,st3,fr3,w3⟩
 rcases turn i n σ3 H3 w3 with ⟨stop,qn⟩|⟨go,N,hN,step⟩
 · refine wpAny_passesOwn hp (r6 (T.done X rfl rfl rfl hc i pins s3 σ3 H3 X.xe I3 (stat fr3) st3 stop) fun r s4 ⟨hr,I4⟩=> ?_);subst hr;exact wpAny_execs_nil ⟨σ3,H3,I4,qn⟩
 · refine wpAny_passesOwn hp (r6 (T.item X rfl rfl rfl hc i pins s3 σ3 H3 X.xe I3 (stat fr3) st3 go) fun r s4 ⟨u,hr,h4⟩=> ?_);subst hr;refine wpAny_passesOwn hp (r6 h4 fun _ s5 ⟨x,H5,I5,r5,y5,st5,fr5⟩=> ?_);have I5':=I5.pinned (stat fr5) (T.obj _ _ st5);refine wpAny_passesOwn hp (r6 (hg _ s5 σ3 H5 x u _ I5' r5 (step x H5 y5)) fun _ s6 ⟨σ6,H6,I6,q6⟩=> ?_);refine wpAny_passesOwn hp (r6 (hb _ s6 σ6 H6 _ I6 q6) fun f s7 q7=> ?_)
   have again:∀{σ7:St} {H7:Hp},i5 X (pins++ak6 fp s5.heap) σ7 H7 s7->N σ7 H7->∃m,m < n/\∃i σ' H',i5 X pins σ' H' s7/\tn i s7.heap/\(∀b∈fp,H' b=none)/\W i m σ' H':=fun {σ7 H7} I7 n7=>by
     obtain ⟨m',hm,w7⟩:=hN σ7 H7 n7;refine ⟨m',hm,i+1,σ7,H7,I7.unpinned,T.keep _ _ _ st5 fun b hb o e=>(I7.pin (b,o) (ef1 _ (ef1 _ (aj1 hb e)))).1,fun b hb=> ?_,w7⟩;obtain ⟨o,e,d⟩:=T.obj _ _ st5 b hb;exact (I7.pin (b,o) (ef1 _ (ef1 _ (aj1 hb e)))).2.1
   cases f with
   |next=>obtain ⟨σ7,H7,I7,n7⟩:=q7;exact again I7 n7
   |cont=>obtain ⟨σ7,H7,I7,n7⟩:=q7;exact again I7 n7
   |brk=>obtain ⟨σ7,H7,I7,q7⟩:=q7;exact ⟨σ7,H7,I7.unpinned,q7⟩
   |ret v=>obtain ⟨x7,σ7,H7,I7,r7,q7⟩:=q7;exact ⟨x7,σ7,H7,I7.unpinned,r7,q7⟩
end
theorem G4 {K:PySem.W.Frag}{a:Addr}{xs:List V}{g:TG}{tb:TS}{D:W4}{σ:St}{H:Hp}(Pv:Nat->St->Hp->Prop)(h0:Pv 0 σ H)(hl:∀i σ H,i<=xs.length->Pv i σ H->g9 K H a xs)
   (hs:∀i x σ H,xs[i]? =some x->Pv i σ H->g x σ H fun σ2 H2=>tb {D with nx:=Pv (i+1),ct:=Pv (i+1),bk:=D.nx} σ2 H2) (hd:∀σ H,Pv xs.length σ H->D.nx σ H):
   ∃W:Nat->Nat->St->Hp->Prop,(∃m,W 0 m σ H)/\∀i m σ H,W i m σ H->
    ((Itl K a).stop i H/\D.nx σ H)\/((Itl K a).go i H/\∃N:St->Hp->Prop,(∀σ' H',N σ' H'->∃m',m' < m/\W (i+1) m' σ' H')/\∀x H',(Itl K a).yld i H x H'->g x σ H' fun σ2 H2=>tb {D with nx:=N,ct:=N,bk:=D.nx} σ2 H2):=by
 refine ⟨fun i m σ H=>m=xs.length - i/\i<=xs.length/\Pv i σ H,⟨xs.length,by simp,ef5 _,h0⟩,?_⟩;rintro i m σ H ⟨rfl,hi,p⟩;have q:=hl i σ H hi p
 by_cases hlt:i < xs.length
 · refine .inr ⟨⟨xs,xs[i],q,by simp [hlt]⟩,Pv (i+1),fun σ' H' p'=>⟨xs.length - (i+1),by omega,rfl,hlt,p'⟩,fun x H' y=> ?_⟩;obtain ⟨e,y⟩:=y;subst e;exact hs i x σ _ (y xs q) p
 · have e:i=xs.length:=by omega
   subst e;exact .inl ⟨⟨xs,q,ed5 _⟩,hd σ H p⟩
theorem G7 {lo:Int}{n:Nat}{g:TG}{tb:TS}{D:W4}{σ:St}{H:Hp}(Pv:Nat->St->Hp->Prop)(h0:Pv 0 σ H)
   (hs:∀i σ H,i < n->Pv i σ H->g (.int (lo+i)) σ H fun σ2 H2=>tb {D with nx:=Pv (i+1),ct:=Pv (i+1),bk:=D.nx} σ2 H2) (hd:∀σ H,Pv n σ H->D.nx σ H):
   ∃W:Nat->Nat->St->Hp->Prop,(∃m,W 0 m σ H)/\∀i m σ H,W i m σ H->
    ((Itr lo n).stop i H/\D.nx σ H)\/((Itr lo n).go i H/\∃N:St->Hp->Prop,(∀σ' H',N σ' H'->∃m',m' < m/\W (i+1) m' σ' H')/\∀x H',(Itr lo n).yld i H x H'->g x σ H' fun σ2 H2=>tb {D with nx:=N,ct:=N,bk:=D.nx} σ2 H2):=by
 refine ⟨fun i m σ H=>m=n - i/\i<=n/\Pv i σ H,⟨n,by simp,ef5 _,h0⟩,?_⟩;rintro i m σ H ⟨rfl,hi,p⟩
 by_cases hlt:i < n
 · refine .inr ⟨hlt,Pv (i+1),fun σ' H' p'=>⟨n - (i+1),by omega,rfl,hlt,p'⟩,fun x H' y=> ?_⟩;obtain ⟨e,y⟩:=y;subst e y;exact hs i σ _ hlt p
 · have e:i=n:=by omega
   subst e;exact .inl ⟨ed5 _,hd σ H p⟩
theorem be6 {c:TT}{tb:TS}{D:W4}{σ:St}{H:Hp}(Pv:St->Hp->Prop)(μ:St->Hp->Nat)(h0:Pv σ H)
   (hs:∀σ H,Pv σ H->c σ H fun b H1=>if b=true then tb {D with nx:=fun σ' H'=>Pv σ' H'/\μ σ' H' < μ σ H,ct:=fun σ' H'=>Pv σ' H'/\μ σ' H' < μ σ H,bk:=D.nx} σ H1 else D.nx σ H1)
   (mono:∀σ H Q Q',(∀b H1,Q b H1->Q' b H1)->c σ H Q->c σ H Q'):cp0 c tb D σ H:=by
 refine ⟨fun m σ H=>m=μ σ H/\Pv σ H,⟨_,rfl,h0⟩,?_⟩;rintro m σ H ⟨rfl,p⟩;refine mono σ H _ _ (fun b H1 q=> ?_) (hs σ H p)
 cases b with
 |true=>exact ⟨_,fun σ' H' ⟨p',l⟩=>⟨_,l,rfl,p'⟩,q⟩
 |false=>exact q
end L2
namespace L2
open PySem PySem.Spec PyProof.Rows
abbrev R2:=V->V->Hp->VK->Prop
def R7 (X:Cx)(f:Value->Value->Sem Value)(r:R2):Prop:=
 ∀(pins:List (Addr×Obj)) (s:Shared) (σ:St) (H:Hp) (x y:V) (v u:Value) (Q:VK),i5 X pins σ H s->o9 x v->o9 y u->r x y H Q->
  wpAny (model X.prog X.w) X.A (f v u) (EP X pins σ Q) X.xe s
def UnR (X:Cx)(f:Value->Sem Value)(r:V->Hp->VK->Prop):Prop:=
 ∀(pins:List (Addr×Obj)) (s:Shared) (σ:St) (H:Hp) (x:V) (v:Value) (Q:VK),i5 X pins σ H s->o9 x v->r x H Q->
  wpAny (model X.prog X.w) X.A (f v) (EP X pins σ Q) X.xe s
def U7 (X:Cx)(f:Value)(r:List V->Hp->VK->Prop):Prop:=
 ∀(pins:List (Addr×Obj)) (s:Shared) (σ:St) (H:Hp) (xs:List V) (us:List Value) (Q:VK),i5 X pins σ H s->n6 xs us->r xs H Q->
  wpAny (model X.prog X.w) X.A (call f us) (EP X pins σ Q) X.xe s
def tOp (r:R2)(ta tb:TE):TE:=fun σ H Q=>ta σ H fun x H1=>tb σ H1 fun y H2=>r x y H2 Q
def tUn (r:V->Hp->VK->Prop)(ta:TE):TE:=fun σ H Q=>ta σ H fun x H1=>r x H1 Q
def rI (C:Int->Int->Prop)(g:Int->Int->V):R2:=fun x y H Q=>∃i j,x= .int i/\y= .int j/\C i j/\Q (g i j) H
def rI0 (g:Int->Int->V):R2:=fun x y H Q=>∃i j,x= .int i/\y= .int j/\Q (g i j) H
def rU (g:Int->V):V->Hp->VK->Prop:=fun x H Q=>∃i,x= .int i/\Q (g i) H
section
variable {X:Cx} {a b c:Expr} {ta tb tc:TE} {pos:Pos}
theorem cz4 (ha:PE X a ta)(hb:PE X b tb){pins:List (Addr×Obj)}{s:Shared}{σ:St}{H:Hp}{R:V->V->Hp->Prop}(I:i5 X pins σ H s)
   (h:ta σ H fun x H1=>tb σ H1 fun y H2=>R x y H2) {Q:Value->Shared->Prop} {f:Value->Value->Sem Value}
   (hf:∀v u s2 x y H2,i5 X pins σ H2 s2->o9 x v->o9 y u->R x y H2->wpAny (model X.prog X.w) X.A (f v u) Q X.xe s2):
   wpAny (model X.prog X.w) X.A (eval a X.env) (fun v s₁=>wpAny (model X.prog X.w) X.A (eval b X.env) (fun u s₂=>wpAny (model X.prog X.w) X.A (f v u) Q X.xe s₂) X.xe s₁) X.xe s:=by
 refine r6 (ha pins s σ H _ I h) fun v s1 ⟨x,H1,I1,r1,q1⟩=> ?_
 refine r6 (hb pins s1 σ H1 _ I1 q1) fun u s2 ⟨y,H2,I2,r2,q2⟩=> ?_
 exact hf v u s2 x y H2 I2 r1 r2 q2
theorem i6 {op:Operator}{r:R2}(ho:R7 X (binaryOp op) r)(ha:PE X a ta)(hb:PE X b tb):PE X (.BinOp a op b pos) (tOp r ta tb):=by
 intro pins s σ H Q I h;exact wpAny_BinOp (cz4 ha hb I h fun v u s2 x y H2 I2 rx ry q=>ho pins s2 σ H2 x y v u Q I2 rx ry q)
theorem aj2 {op:UnaryOp}{r:V->Hp->VK->Prop}(ho:UnR X (unaryOp op) r)(ha:PE X a ta):PE X (.UnaryOp op a pos) (tUn r ta):=by
 intro pins s σ H Q I h;exact UnaryOp_ (r6 (ha pins s σ H _ I h) fun v s1 ⟨x,H1,I1,r1,q1⟩=>ho pins s1 σ H1 x v Q I1 r1 q1)
theorem opI {f:Value->Value->Sem Value}{C:Int->Int->Prop}{g:Int->Int->Int}
   (rule:∀(i j:Int) (t u:Tok) (s:Shared) (Q:Value->Shared->Prop) (E:Value->Shared->Prop),C i j->Q (.int (g i j) s.toks) {s with toks:=s.toks+1}->wpAny (model X.prog X.w) X.A (f (.int i t) (.int j u)) Q E s):
   R7 X f (rI C fun i j=> .int (g i j)):=by
 intro pins s σ H x y v u Q I rx ry h;obtain ⟨i,j,rfl,rfl,hc,q⟩:=h;obtain ⟨t,rfl⟩:=rx;obtain ⟨t',rfl⟩:=ry;exact rule i j t t' s _ _ hc ⟨.int (g i j),H,I.tok _,⟨_,rfl⟩,q⟩
theorem do7 {f:Value->Value->Sem Value}{g:Int->Int->Int}
   (rule:∀(i j:Int) (t u:Tok) (s:Shared) (Q:Value->Shared->Prop) (E:Value->Shared->Prop),Q (.int (g i j) s.toks) {s with toks:=s.toks+1}->wpAny (model X.prog X.w) X.A (f (.int i t) (.int j u)) Q E s):
   R7 X f (rI0 fun i j=> .int (g i j)):=by
 intro pins s σ H x y v u Q I rx ry h;obtain ⟨i,j,rfl,rfl,q⟩:=h;obtain ⟨t,rfl⟩:=rx;obtain ⟨t',rfl⟩:=ry;exact rule i j t t' s _ _ ⟨.int (g i j),H,I.tok _,⟨_,rfl⟩,q⟩
theorem cl0 {f:Value->Value->Sem Value}{g:Int->Int->Bool}
   (rule:∀(i j:Int) (t u:Tok) (s:Shared) (Q:Value->Shared->Prop) (E:Value->Shared->Prop),Q (.bool (g i j)) s->wpAny (model X.prog X.w) X.A (f (.int i t) (.int j u)) Q E s):
   R7 X f (rI0 fun i j=> .bl (g i j)):=by
 intro pins s σ H x y v u Q I rx ry h;obtain ⟨i,j,rfl,rfl,q⟩:=h;obtain ⟨t,rfl⟩:=rx;obtain ⟨t',rfl⟩:=ry;exact rule i j t t' s _ _ ⟨.bl (g i j),H,I,rfl,q⟩
def dz7 (i j:Int):Prop:=0 < j/\j < 1073741824
def do8 (i j:Int):Prop:=0<=j/\j<=1000000/\i.natAbs < 2^64
def cl1 (i j:Int):Prop:=(-(2^64) < i/\i < 2^64)\/(-(2^64) < j/\j < 2^64)
theorem cl1.ok {i j:Int}(h:cl1 i j):IntMulOk i j:=by
 rcases h with ⟨h1,h2⟩|⟨h1,h2⟩
 · exact .of_left (intBits_le_64 h1 h2)
 · exact .of_right (intBits_le_64 h1 h2)
theorem C0:R7 X (binaryOp .Add) (rI0 fun i j=> .int (i+j)):=do7 fun _ _ _ _ _ _ _ q=>add_int q
theorem Z5:R7 X (binaryOp .Sub) (rI0 fun i j=> .int (i - j)):=do7 fun _ _ _ _ _ _ _ q=>sub_int q
theorem V9:R7 X (binaryOp .Mult) (rI cl1 fun i j=> .int (i*j)):=opI fun _ _ _ _ _ _ _ hc q=>mul_int q hc.ok
theorem cg6:R7 X (binaryOp .FloorDiv) (rI dz7 fun i j=> .int (i/j)):=opI fun i j _ _ _ _ _ hc q=>by
 have h1:(0:Int) < j:=hc.1;have h2:j < 1073741824:=hc.2;exact floordiv_int (by omega) (by rw[ev0 i (by omega)];exact q) (.inl (PyProof.noPylong_small (by omega)))
theorem C1:R7 X (binaryOp .Mod) (rI (fun _ j=>0 < j) fun i j=> .int (i%j)):=opI fun i j _ _ _ _ _ hc q=>by
 have h1:(0:Int) < j:=hc;exact mod_int' (by omega) (by rw[Int.fmod_eq_emod_of_nonneg i (by omega)];exact q)
theorem bh7:R7 X (binaryOp .Pow) (rI do8 fun i j=> .int (i^j.toNat)):=opI fun _ _ _ _ _ _ _ hc q=>pow_int_small hc.1 hc.2.1 hc.2.2 q
theorem unI {f:Value->Sem Value}{g:Int->Int}
   (rule:∀(i:Int) (t:Tok) (s:Shared) (Q:Value->Shared->Prop) (E:Value->Shared->Prop),Q (.int (g i) s.toks) {s with toks:=s.toks+1}->wpAny (model X.prog X.w) X.A (f (.int i t)) Q E s):
   UnR X f (rU fun i=> .int (g i)):=by
 intro pins s σ H x v Q I rx h;obtain ⟨i,rfl,q⟩:=h;obtain ⟨t,rfl⟩:=rx;exact rule i t s _ _ ⟨.int (g i),H,I.tok _,⟨_,rfl⟩,q⟩
theorem ac2:UnR X (unaryOp .USub) (rU fun i=> .int (-i)):=unI fun _ _ _ _ _ q=>neg_int q
end
def cz5:V->V->Bool
 | .non,.non=>true| .non,.int _=>true| .int _,.non=>true| .non,.bl _=>true| .bl _,.non=>true| .non,.str _=>true| .str _,.non=>true
 | .int _,.int _=>true| .bl _,.bl _=>true| .str _,.str _=>true| .byt _,.byt _=>true
 | .int _,.str _=>true| .str _,.int _=>true| .bl _,.str _=>true| .str _,.bl _=>true
 |_,_=>false
def rEq:R2:=fun x y H Q=>cz5 x y=true/\Q (.bl (decide (x=y))) H
def rNe:R2:=fun x y H Q=>cz5 x y=true/\Q (.bl (!decide (x=y))) H
theorem cg7 {i j:Int}:decide (V.int i=V.int j)=(i==j):=by
 rw[eq1];simp
theorem cp3 {i j:Bool}:decide (V.bl i=V.bl j)=(i==j):=by
 rw[eq1];simp
theorem cg8 {i j:Str}:decide (V.str i=V.str j)=(i==j):=by
 rw[eq1];simp
theorem cg9 {i j:Array UInt8}:decide (V.byt i=V.byt j)=(i.toList==j.toList):=by
 rw[eq1];cases i;cases j;simp
section
variable {X:Cx} {a b c:Expr} {ta tb tc:TE} {pos:Pos}
theorem B5 {pins:List (Addr×Obj)}{σ:St}{H:Hp}{s:Shared}{Q:VK}{k k':Bool}(I:i5 X pins σ H s)(q:Q (.bl k) H)(e:k=k'):EP X pins σ Q (.bool k') s:=by
 subst e;exact ⟨.bl k,H,I,rfl,q⟩
theorem ac3:R7 X (compareOp .Eq) rEq:=by
 intro pins s σ H x y v u Q I rx ry h;obtain ⟨hs,q⟩:=h
 cases x with
 |non=>
  cases rx
  cases y with
  |non=>cases ry;exact PySem.EqNone.eq_none_none (B5 I q (by simp))
  |bl j=>cases ry;exact PySem.EqNone.eq_none_bool (B5 I q (by simp))
  |int j=>obtain ⟨t',rfl⟩:=ry;exact PySem.EqNone.eq_none_int (B5 I q (by simp))
  |str j=>obtain ⟨t',rfl⟩:=ry;exact PySem.EqNone.eq_none_str (B5 I q (by simp))
  |_=>exact absurd (show false=true from hs) ef3
 |bl i=>
  cases rx
  cases y with
  |non=>cases ry;exact PySem.EqNone.eq_bool_none (B5 I q (by simp))
  |bl j=>cases ry;exact eq_bool (B5 I q cp3)
  |str j=>obtain ⟨t',rfl⟩:=ry;exact PySem.EqMixed.eq_bool_str (B5 I q (by simp))
  |_=>exact absurd (show false=true from hs) ef3
 |int i=>
  obtain ⟨t,rfl⟩:=rx
  cases y with
  |non=>cases ry;exact PySem.EqNone.eq_int_none (B5 I q (by simp))
  |int j=>obtain ⟨t',rfl⟩:=ry;exact eq_int (B5 I q cg7)
  |str j=>obtain ⟨t',rfl⟩:=ry;exact PySem.EqMixed.eq_int_str (B5 I q (by simp))
  |_=>exact absurd (show false=true from hs) ef3
 |str i=>
  obtain ⟨t,rfl⟩:=rx
  cases y with
  |non=>cases ry;exact PySem.EqNone.eq_str_none (B5 I q (by simp))
  |bl j=>cases ry;exact PySem.EqMixed.eq_str_bool (B5 I q (by simp))
  |int j=>obtain ⟨t',rfl⟩:=ry;exact PySem.EqMixed.eq_str_int (B5 I q (by simp))
  |str j=>obtain ⟨t',rfl⟩:=ry;exact eq_str (B5 I q cg8)
  |_=>exact absurd (show false=true from hs) ef3
 |byt i=>
  obtain ⟨t,rfl⟩:=rx
  cases y with
  |byt j=>obtain ⟨t',rfl⟩:=ry;exact PySem.W.eq_bytes (B5 I q cg9)
  |_=>exact absurd (show false=true from hs) ef3
 |_=>cases y<;>exact absurd (show false=true from hs) ef3
theorem R9:R7 X (compareOp .NotEq) rNe:=by
 intro pins s σ H x y v u Q I rx ry h;obtain ⟨hs,q⟩:=h
 cases x with
 |non=>
  cases rx
  cases y with
  |non=>cases ry;exact PySem.EqNone.ne_none_none (B5 I q (by simp))
  |bl j=>cases ry;exact PySem.EqNone.ne_none_bool (B5 I q (by simp))
  |int j=>obtain ⟨t',rfl⟩:=ry;exact PySem.EqNone.ne_none_int (B5 I q (by simp))
  |str j=>obtain ⟨t',rfl⟩:=ry;exact PySem.EqNone.ne_none_str (B5 I q (by simp))
  |_=>exact absurd (show false=true from hs) ef3
 |bl i=>
  cases rx
  cases y with
  |non=>cases ry;exact PySem.EqNone.ne_bool_none (B5 I q (by simp))
  |bl j=>cases ry;exact ne_bool (B5 I q (congrArg not cp3))
  |str j=>obtain ⟨t',rfl⟩:=ry;exact PySem.EqMixed.ne_bool_str (B5 I q (by simp))
  |_=>exact absurd (show false=true from hs) ef3
 |int i=>
  obtain ⟨t,rfl⟩:=rx
  cases y with
  |non=>cases ry;exact PySem.EqNone.ne_int_none (B5 I q (by simp))
  |int j=>obtain ⟨t',rfl⟩:=ry;exact ne_int (B5 I q (congrArg not cg7))
  |str j=>obtain ⟨t',rfl⟩:=ry;exact PySem.EqMixed.ne_int_str (B5 I q (by simp))
  |_=>exact absurd (show false=true from hs) ef3
 |str i=>
  obtain ⟨t,rfl⟩:=rx
  cases y with
  |non=>cases ry;exact PySem.EqNone.ne_str_none (B5 I q (by simp))
  |bl j=>cases ry;exact PySem.EqMixed.ne_str_bool (B5 I q (by simp))
  |int j=>obtain ⟨t',rfl⟩:=ry;exact PySem.EqMixed.ne_str_int (B5 I q (by simp))
  |str j=>obtain ⟨t',rfl⟩:=ry;exact ne_str (B5 I q (congrArg not cg8))
  |_=>exact absurd (show false=true from hs) ef3
 |byt i=>
  obtain ⟨t,rfl⟩:=rx
  cases y with
  |byt j=>obtain ⟨t',rfl⟩:=ry;exact PySem.W.ne_bytes (B5 I q (congrArg not cg9))
  |_=>exact absurd (show false=true from hs) ef3
 |_=>cases y<;>exact absurd (show false=true from hs) ef3
theorem as1:R7 X (compareOp .Lt) (rI0 fun i j=> .bl (decide (i < j))):=cl0 fun _ _ _ _ _ _ _ q=>lt_int q
theorem cl2:R7 X (compareOp .LtE) (rI0 fun i j=> .bl (decide (i<=j))):=cl0 fun _ _ _ _ _ _ _ q=>le_int q
theorem an5:R7 X (compareOp .Gt) (rI0 fun i j=> .bl (decide (j < i))):=cl0 fun _ _ _ _ _ _ _ q=>gt_int q
theorem bh8:R7 X (compareOp .GtE) (rI0 fun i j=> .bl (decide (j<=i))):=cl0 fun _ _ _ _ _ _ _ q=>ge_int q
theorem bw5:R7 X (compareOp .Is) (fun x y H Q=>y= .non/\Q (.bl (decide (x= .non))) H):=by
 intro pins s σ H x y v u Q I rx ry h;obtain ⟨rfl,q⟩:=h;cases ry;refine is_none_gen (B5 I q ?_)
 cases x<;>first
   |(cases rx;rfl)
   |(obtain ⟨t,rfl⟩:=rx;rfl)
theorem j7 (b:Expr){op:CmpOp}(h:op≠.In:=by decide)(h2:op≠.NotIn:=by decide):behindInMarks op b=false:=by
 have e1:(op==CmpOp.In)=false:=by cases op<;>first|rfl|exact absurd rfl h
 have e2:(op==CmpOp.NotIn)=false:=by cases op<;>first|rfl|exact absurd rfl h2
 cases b<;>simp [behindInMarks,e1,e2]
theorem Y2 {op:CmpOp}{r:R2}(ho:R7 X (compareOp op) r)(ha:PE X a ta)(hb:PE X b tb)(hm:behindInMarks op b=false):PE X (.Compare a [op] [b] pos) (tOp r ta tb):=by
 intro pins s σ H Q I h;exact wpAny_Compare1 (cz4 ha hb I h fun v u s2 x y H2 I2 rx ry q=>ho pins s2 σ H2 x y v u Q I2 rx ry q) hm
def du8 (t:TE):TT:=fun σ H Q=>t σ H fun x H'=>∃k,x= .bl k/\Q k H'
theorem j6 {op:CmpOp}{r:R2}(ho:R7 X (compareOp op) r)(ha:PE X a ta)(hb:PE X b tb)(hm:behindInMarks op b=false):PT X (.Compare a [op] [b] pos) (du8 (tOp r ta tb)):=by
 intro pins s σ H Q I h
 refine wpAny_isTrue_Compare1 (r6 (ha pins s σ H _ I h) fun v s1 ⟨x,H1,I1,r1,q1⟩=>r6 (hb pins s1 σ H1 _ I1 q1) fun u s2 ⟨y,H2,I2,r2,q2⟩=>
   r6 (ho pins s2 σ H2 x y v u _ I2 r1 r2 q2) fun c s3 ⟨z,H3,I3,r3,k,e,q3⟩=> ?_) hm
 subst e;cases r3;exact wpAny_truthy_bool ⟨H3,I3,q3⟩
theorem bw6:(sizeLine:Nat) < 2^63:=by rw[sizeLine_eq];decide
theorem aj3 {x:V}{us:List Value}(r:n6 [x] us):∃u,us=[u]/\o9 x u:=by
 cases r with
 |cons r1 r2=>cases r2;exact ⟨_,rfl,r1⟩
theorem bv8 {x y:V}{us:List Value}(r:n6 [x,y] us):∃u w',us=[u,w']/\o9 x u/\o9 y w':=by
 cases r with
 |cons r1 r2=>
  cases r2 with
  |cons r3 r4=>cases r4;exact ⟨_,_,rfl,r1,r3⟩
theorem cp4 (hc:X.calm=true):U7 X (.builtin "max") (fun xs H Q=>∃i j,xs=[.int i,.int j]/\Q (.int (if j > i then j else i)) H):=by
 intro pins s σ H xs us Q I r h;obtain ⟨i,j,rfl,q⟩:=h;obtain ⟨u,w',rfl,⟨t,rfl⟩,⟨t',rfl⟩⟩:=bv8 r
 refine max_two_ints (I.ok.hd hc) fun h' tk k=>⟨_,H,I.kept k,?_,q⟩
 by_cases hj:j > i
 · rw[if_pos hj,if_pos hj];exact ⟨_,rfl⟩
 · rw[if_neg hj,if_neg hj];exact ⟨_,rfl⟩
theorem cp5 (hc:X.calm=true):U7 X (.builtin "min") (fun xs H Q=>∃i j,xs=[.int i,.int j]/\Q (.int (if j < i then j else i)) H):=by
 intro pins s σ H xs us Q I r h;obtain ⟨i,j,rfl,q⟩:=h;obtain ⟨u,w',rfl,⟨t,rfl⟩,⟨t',rfl⟩⟩:=bv8 r
 refine min_two_ints (I.ok.hd hc) fun h' tk k=>⟨_,H,I.kept k,?_,q⟩
 by_cases hj:j < i
 · rw[if_pos hj,if_pos hj];exact ⟨_,rfl⟩
 · rw[if_neg hj,if_neg hj];exact ⟨_,rfl⟩
end
end L2
namespace L2
open PySem PySem.Spec PyProof.Rows
structure cz6 (h:Heap)(x dx C:Addr)(mA:Str->Option Value):Prop where
 obj:h.get? x=some (PySem.W.instObj C dx)
 ns:h.Ns1 dx mA
 ne:dx≠x
theorem cp6 {h:Heap}{dx:Addr}{mA:Str->Option Value}(n:h.Ns1 dx mA):∃od,h.get? dx=some od/\∀name,PySem.W.lookIn name od=some (mA name):=by
 obtain ⟨o,es,ep,ho,hd,hk,_,hm⟩:=n;refine ⟨o,ho,fun name=> ?_⟩;have e:=hm name;unfold nsFind findBy at e;rw[<-Array.find?_toList] at e;unfold PySem.W.lookIn;rw[hd]
 dsimp only
 split
 · rename_i y q;rw[q] at e;exact congrArg some e
 · rename_i q;rw[q] at e
   have a:es.toList.any (·.refKey)=false:=by
     rw[List.any_eq_false];intro y hy;obtain ⟨z,t,hkey⟩:=hk y (Array.mem_toList_iff.mp hy);simp [DictEntry.refKey,hkey]
   have a':¬es.toList.any (·.refKey)=true:=by rw[a];exact ef3
   rw[if_neg a'];exact congrArg some e
theorem cz6.look {h:Heap}{x dx C:Addr}{mA:Str->Option Value}(I:cz6 h x dx C mA):∃od,PySem.W.InstAt h x (PySem.W.instObj C dx) C (some od)/\∀name,PySem.W.lookIn name od=some (mA name):=
 let ⟨od,ho,hl⟩:=cp6 I.ns
 ⟨od,⟨I.obj,rfl,rfl,ho⟩,hl⟩
theorem ae0.some_of {v:V}{o:Option Value}(r:ae0 (some v) o):∃u,o=some u/\o9 v u:=by
 cases o with
 |none=>exact (show False from r).elim
 |some u=>exact ⟨u,rfl,r⟩
section
variable {P:Program} {w:World} {H H':Hp} {h h':Heap} {a C dx:Addr} {fs fs':List (Str×V)}
theorem dh2 (hok:K9 P w H h)(e:H a=some (.ins C dx fs)):∃mA,cz6 h a dx C mA/\(∀f,ae0 (fs.lookup f) (mA f))/\PySem.Within mA (fs.map (·.1))/\fs.length<=1000/\H dx=some (.own a):=by
 obtain ⟨d,z,ne,ob,mA,n,r,q⟩:=(show y9 P w H h a (.ins C dx fs) from hok a _ e);exact ⟨mA,⟨ob,n,ne⟩,r,q,z,d⟩
end
structure Cls (K:PySem.W.Frag)(C:Addr):Prop where
 pg:PySem.W.plainGet K C Str.empty=true
 hd:PySem.W.hasDictIn K C=true
 po:PySem.W.plainOver K C=true
 sa:PySem.W.findIn K (.ref C) "__setattr__"=some (some (.builtin "object.__setattr__"))
theorem Cls.get {K:PySem.W.Frag}{C:Addr}(c:Cls K C)(f:Str):PySem.W.plainGet K C f=true:=c.pg
section
variable {X:Cx} {pins:List (Addr×Obj)} {σ:St} {H:Hp} {s:Shared} {A:Around} {E:Value->Shared->Prop} {Q:Value->Shared->Prop} {c:Value} {b:Bool}
inductive U8 (K:PySem.W.Frag)(H:Hp):V->Value->Prop where
 |non:U8 K H .non (.type "NoneType")
 |bl (x:Bool):U8 K H (.bl x) (.type "bool")
 |int (i:Int):U8 K H (.int i) (.type "int")
 |str (x:Str):U8 K H (.str x) (.type "str")
 |flt (x:UInt64):U8 K H (.flt x) (.type "float")
 |lst {a:Addr} {xs:List V} (e:H a=some (.lst xs)):U8 K H (.ref a) (.type "list")
 |frz {a:Addr} {o:Obj} {xs:List V} (e:H a=some (.frz o (.lst xs))):U8 K H (.ref a) (.type "list")
 |tup {a:Addr} {xs:List V} (e:H a=some (.tup xs)):U8 K H (.ref a) (.type "tuple")
 |dK {a:Addr} {kvs:List (q9×V)} (e:H a=some (.dK kvs)):U8 K H (.ref a) (.type "dict")
 |dT {a:Addr} {kvs:List (List q9×V)} (e:H a=some (.dT kvs)):U8 K H (.ref a) (.type "dict")
 |ins {a C dx:Addr} {fs:List (Str×V)} (e:H a=some (.ins C dx fs)) (cl:Cls K C) (ha:PySem.W.findIn K (.ref C) "__class__"=some (some (.builtin "object.__class__")))
     (hn:PySem.W.specialIn K (.builtin "object.__class__") "__get__"=some (some (.builtin "getset_descriptor.__get__"))) (htk:PySem.W.takesIn K (.builtin "object.__class__")=some true)
     (hm:PySem.W.mroIn K C (.type "object")=some true):U8 K H (.ref a) (.ref C)
theorem cp7 {x:V}{u t:Value}(I:i5 X pins σ H s)(rx:o9 x u)(ty:U8 X.K H x t)(e:PySem.W.kitOne X.K t c=some b)(h:∀tk,Q (.bool b) {s with toks:=tk}):
   wpAny (model X.prog X.w) A (call (.builtin "isinstance") [u,c]) Q E s:=by
 cases ty with
 |non=>cases (show u=Value.none from rx);exact PySem.W.kia_one PySem.W.kitx_none I.kIn True.intro e (fun z=>nomatch z) h
 |bl y=>cases (show u=Value.bool y from rx);exact PySem.W.kia_one PySem.W.kitx_bool I.kIn True.intro e (fun z=>nomatch z) h
 |int i=>obtain ⟨t,q⟩:=(show ∃t,u=Value.int i t from rx);cases q;exact PySem.W.kia_one PySem.W.kitx_int I.kIn True.intro e (fun z=>nomatch z) h
 |str y=>obtain ⟨t,q⟩:=(show ∃t,u=Value.str y t from rx);cases q;exact PySem.W.kia_one PySem.W.kitx_str I.kIn True.intro e (fun z=>nomatch z) h
 |flt y=>obtain ⟨t,q⟩:=(show ∃t,u=Value.float y t from rx);cases q;exact PySem.W.kia_one PySem.W.kitx_float I.kIn True.intro e (fun z=>nomatch z) h
 |@lst a xs ea=>
  cases (show u=Value.ref a from rx);obtain ⟨_,_,n,_,h1⟩:=(show y9 X.prog X.w H s.heap a (.lst xs) from I.hok a _ ea);exact PySem.W.kia_one PySem.W.kitx_list I.kIn ⟨_,h1,rfl⟩ e (fun z=>nomatch z) h
 |@frz a ob xs ea=>
  cases (show u=Value.ref a from rx);obtain ⟨_,_,_,n,_,h1⟩:=(show y9 X.prog X.w H s.heap a (.frz ob (.lst xs)) from I.hok a _ ea);exact PySem.W.kia_one PySem.W.kitx_list I.kIn ⟨_,h1,rfl⟩ e (fun z=>nomatch z) h
 |@tup a xs ea=>
  cases (show u=Value.ref a from rx);obtain ⟨_,_,_,p⟩:=(show y9 X.prog X.w H s.heap a (.tup xs) from I.hok a _ ea);obtain ⟨o,h1,h2,_⟩:=p;exact PySem.W.kia_one PySem.W.kitx_tuple I.kIn ⟨o,h1,h2⟩ e (fun z=>nomatch z) h
 |@dK a kvs ea=>
  cases (show u=Value.ref a from rx);obtain ⟨_,_,vs,_,p⟩:=(show y9 X.prog X.w H s.heap a (.dK kvs) from I.hok a _ ea);obtain ⟨o,es,ep,h1,h2,_⟩:=p;exact PySem.W.kia_one PySem.W.kitx_dict I.kIn ⟨o,h1,h2.1⟩ e (fun z=>nomatch z) h
 |@dT a kvs ea=>
  cases (show u=Value.ref a from rx);obtain ⟨_,_,xs,_,o,es,ep,h1,h2,_⟩:=(show y9 X.prog X.w H s.heap a (.dT kvs) from I.hok a _ ea);exact PySem.W.kia_one PySem.W.kitx_dict I.kIn ⟨o,h1,h2.1⟩ e (fun z=>nomatch z) h
 |@ins a C dx fs ea cl ha hn htk hm=>
  cases (show u=Value.ref a from rx);obtain ⟨mA,O,_⟩:=dh2 I.hok ea;obtain ⟨od,J,_⟩:=O.look;exact PySem.W.kia_one (PySem.W.kitx_own (cl.get _) cl.hd ha hn htk hm) I.kIn J e (fun z=>nomatch z) h
end
end L2
namespace L2
open PySem PySem.Spec PyProof.Rows
structure l6 (k:Nat)(A:Around):Prop where
 hd:A.handled=none
 dp:A.depth+3*k+5 < recursionLimit
 un:A.units+16*k+200 < cLine
 gd:A.guards=some []
theorem l6.mono {j k:Nat}{A:Around}(r:l6 k A)(h:j<=k):l6 j A:=⟨r.hd,by have:=r.dp;omega,by have:=r.un;omega,r.gd⟩
theorem l6.deeper {k:Nat}{A:Around}(r:l6 (k+1) A)(env:Env):l6 k (A.deeper env):=
 ⟨r.hd,by have:=r.dp;show A.depth+1+3*k+5 < _;omega,by have:=r.un;show A.units+3+16*k+200 < _;omega,r.gd⟩
theorem l6.depth {k:Nat}{A:Around}(r:l6 k A):A.depth < recursionLimit:=by have:=r.dp;omega
theorem l6.units {k:Nat}{A:Around}(r:l6 k A):A.units+64 < cLine:=by have:=r.un;omega
def cl3:TA:=fun _ H Q=>Q [] H
def cl4 (ta:TE)(tr:TA):TA:=fun σ H Q=>ta σ H fun x H1=>tr σ H1 fun xs H2=>Q (x::xs) H2
section
variable {X:Cx} {e:Expr} {es:List Expr} {te:TE} {t:TA} {pos:Pos}
theorem j8:PA X [] cl3:=fun _ _ _ _ H Q I h=>Calls.spliced_nil ⟨[],H,I,.nil,h⟩
theorem e7 (ha:PE X e te)(hr:PA X es t)(hs:starEach (e::es) X.env=(false,eval e X.env)::starEach es X.env:=by rfl):PA X (e::es) (cl4 te t):=by
 intro pos pins s σ H Q I h;rw[hs];show wpAny _ _ (spliced ((false,eval e X.env)::backTo pos (starEach es X.env))) _ _ s;refine Calls.spliced_cons (r6 (ha pins s σ H _ I h) fun u s1 ⟨x,H1,I1,r1,q1⟩=> ?_)
 exact r6 (hr pos pins s1 σ H1 _ I1 q1) fun us s2 ⟨xs,H2,I2,r2,q2⟩=>⟨x::xs,H2,I2,.cons r1 r2,q2⟩
def dz8 (t:TA):TE:=fun σ H Q=>t σ H fun xs H1=>xs.length<=sizeLine/\∀p,H1 p=none->Q (.ref p) (c9 H1 p (.tup xs))
def dz9 (t:TA):TE:=fun σ H Q=>t σ H fun xs H1=>xs.length<=sizeLine/\∀p,H1 p=none->Q (.ref p) (c9 H1 p (.lst xs))
theorem ah1 {x1}(h:PA X es t):PE X (.Tuple es x1 pos) (dz8 t):=by
 intro pins s σ H Q I hq;refine wpAny_Tuple_spliced (r6 (h pos pins s σ H _ I hq) fun us s1 ⟨xs,H1,I1,r,z,q⟩=>⟨by rw[<-r.length];exact z,?_⟩);have hf:H1 s1.heap.objs.size=none:=I1.hok.fresh (ed5 _);refine ⟨.ref s1.heap.objs.size,c9 H1 s1.heap.objs.size (.tup xs),I1.laid (t':=s1.toks) (fun b u e=>Heap.get?_push_of_some _ e) (ed5 _) ?_,rfl,q _ hf⟩;exact ⟨z,us,r,⟨_,Heap.get?_push_size _ rfl,rfl,_,rfl⟩⟩
theorem o5 (h:PA X es t):PE X (.List es pos) (dz9 t):=by
 intro pins s σ H Q I hq;refine wpAny_List_spliced (r6 (h pos pins s σ H _ I hq) fun us s1 ⟨xs,H1,I1,r,z,q⟩=>⟨by rw[<-r.length];exact z,?_⟩);have hf:H1 s1.heap.objs.size=none:=I1.hok.fresh (ed5 _);refine ⟨.ref s1.heap.objs.size,c9 H1 s1.heap.objs.size (.lst xs),I1.laid (t':=s1.toks) (fun b u e=>Heap.get?_push_of_some _ e) (ed5 _) ?_,rfl,q _ hf⟩;exact ⟨z,us,0,r,Heap.get?_push_size _ rfl⟩
end
abbrev Sp:=List V->Hp->VK->XK->Prop
abbrev CXT:=List Env->Hp->Shared->XK->Value->Shared->Prop
structure cl5 (P:Program)(w:World)(K:PySem.W.Frag)(mg:Str->Option Value)(base:Heap)(A:Around)(outer:List Env)(s:Shared)(H:Hp):Prop where
 frames:A.frames=some outer
 mod:Mod K mg base
 bs:∀b o,base.get? b=some o->s.heap.get? b=some o/\H b=none
 bsz:base.objs.size<=s.heap.objs.size
 funs:s.heap.FunFrames base outer
 frf:∀b∈J7 outer,H b=none
 hok:K9 P w H s.heap
 bare:AllBare s.gens
def CE (outer:List Env)(P:Program)(w:World)(H:Hp)(s:Shared)(Q:VK)(u:Value)(s':Shared):Prop:=
 ∃v H',s'.os=s.os/\AllBare s'.gens/\Un (J7 outer) [] H H' s.heap s'.heap/\K9 P w H' s'.heap/\o9 v u/\Q v H'
def CR (CX:CXT)(outer:List Env)(P:Program)(w:World)(H:Hp)(s:Shared)(Q:VK)(E:XK)(r:Result)(s':Shared):Prop:=
 match r with
 | .ok (.ret u)=>CE outer P w H s Q u s'
 | .ok _=>False
 | .error e=>CX outer H s E e s'
structure m9 (P:Program)(w:World)(K:PySem.W.Frag)(mg:Str->Option Value)(base:Heap)(CX:CXT)(k:Nat)(f:Addr)(fd:FuncData)(ps:List Str)(sp:Sp):Prop where
 len:∀vs H Q E,sp vs H Q E->vs.length=ps.length
 run:∀(A:Around) (outer:List Env) (s:Shared) (H:Hp) (args:Args) (us:List Value) (vs:List V) (Q:VK) (E:XK),l6 k A->cl5 P w K mg base A outer s H->BindsTo s fd args (ps.zip us)->n6 vs us->sp vs H Q E->
   codeAny (model P w) A (.call (.ref f) args) (CR CX outer P w H s Q E) s
theorem m9.imp {P:Program}{w:World}{K:PySem.W.Frag}{mg:Str->Option Value}{base:Heap}{CX:CXT}{k:Nat}{f:Addr}{fd:FuncData}{ps:List Str}{sp sp':Sp}(F:m9 P w K mg base CX k f fd ps sp)
   (h:∀vs H Q E,sp' vs H Q E->sp vs H Q E):m9 P w K mg base CX k f fd ps sp':=
 ⟨fun vs H Q E q=>F.len vs H Q E (h _ _ _ _ q),fun A outer s H args us vs Q E hr he hb hv hs=>F.run A outer s H args us vs Q E hr he hb hv (h _ _ _ _ hs)⟩
section
variable {X:Cx} {pins:List (Addr×Obj)} {σ:St} {H:Hp} {s s':Shared}
theorem i5.env0 (I:i5 X pins σ H s):cl5 X.prog X.w X.K X.mg X.base X.A X.stack s H:=
 ⟨I.ok.frames,I.ok.mod,I.bs,ee6 I.ok.bsz I.sz,I.stack,I.stkFree,I.hok,I.bare⟩
theorem i5.after {Q:VK}{u:Value}(I:i5 X pins σ H s)(h:CE X.stack X.prog X.w H s Q u s'):EP X pins σ Q u s':=by
 obtain ⟨v,H',os,bare,un,hok,r,q⟩:=h;obtain ⟨hh,g,d,t,os'⟩:=s';obtain rfl:os'=s.os:=os;exact ⟨v,H',I.call (h':=hh) (g':=g) (d':=d) (t':=t) (ch:=[]) un hok bare (fun b z=>absurd z (by simp)),r,q⟩
end
def bh9 (sp:Sp)(dvs:List V)(E:XK)(t:TA):TE:=fun σ H Q=>t σ H fun vs H1=>sp (vs++dvs) H1 Q E
def aj4 (K:PySem.W.Frag)(fd:FuncData)(ps:List Str)(ds:List Value):Prop:=
 ∀(s:Shared) (us:List Value),K.In s.heap->(us++ds).length=ps.length->BindsTo s fd ⟨us,[]⟩ (ps.zip (us++ds))
theorem aj4.all {K:PySem.W.Frag}{fd:FuncData}{ps:List Str}(h:∀us:List Value,us.length=ps.length->bindArgs fd ⟨us,[]⟩=pure (ps.zip us)):aj4 K fd ps []:=fun s us _ hl=>by
 rw[eg0] at hl ⊢;exact .of_eq (h us hl)
def ay1 (CX:CXT)(X:Cx)(E:XK):Prop:=∀(pins:List (Addr×Obj)) (σ:St) (H:Hp) (s:Shared) (e:Value) (s':Shared),i5 X pins σ H s->CX X.stack H s E e s'->X.xe e s'
section
variable {X:Cx} {CX:CXT} {k:Nat} {f C:Addr} {fd:FuncData} {ps:List Str} {sp:Sp} {dvs:List V} {ds:List Value} {E:XK} {x m:Str} {p pos apos:Pos} {e o:Expr} {es:List Expr} {ta:TE} {t:TA}
theorem dp0 {pins:List (Addr×Obj)}{σ:St}{H:Hp}{s:Shared}{Q:VK}{us:List Value}{vs:List V}(F:m9 X.prog X.w X.K X.mg X.base CX k f fd ps sp)(hr:l6 k X.A)(hb:aj4 X.K fd ps ds)(hd:n6 dvs ds)(hx:ay1 CX X E)
   (I:i5 X pins σ H s) (r:n6 vs us) (h:sp (vs++dvs) H Q E):wpAny (model X.prog X.w) X.A (call (.ref f) us) (EP X pins σ Q) X.xe s:=by
 have r2:n6 (vs++dvs) (us++ds):=r.append hd
 have hl:(us++ds).length=ps.length:=by rw[<-r2.length];exact F.len _ _ _ _ h
 refine wpAny_call (codeAny_mono (F.run X.A X.stack s H ⟨us,[]⟩ (us++ds) (vs++dvs) Q E hr I.env0 (hb s us I.kIn hl) r2 h) fun r s' hq=> ?_)
 cases r with
 |error e=>exact hx pins σ H s e s' I hq
 |ok fl=>
  cases fl with
  |ret u=>exact I.after hq
  |next=>exact False.elim hq
  |brk=>exact False.elim hq
  |cont=>exact False.elim hq
theorem ch1 (F:m9 X.prog X.w X.K X.mg X.base CX k f fd ps sp)(hr:l6 k X.A)(hg:Gl X x)(hm:X.mg x=some (.ref f))(hk:PySem.W.keepIn X.K (.ref f)=true)(hb:aj4 X.K fd ps ds)(hd:n6 dvs ds)(hx:ay1 CX X E)
   (ha:PA X (e::es) t) (hdb:(x==("__debug__":Str))=false:=by decide) (he:starEach (e::es) X.env=(false,eval e X.env)::starEach es X.env:=by rfl) (hpl:(backTo pos (starEach es X.env)).any (·.1)=false:=by rfl):
   PE X (.Call (.Name x p) (e::es) [] pos) (bh9 sp dvs E t):=by
 intro pins s σ H Q I h;refine wpAny_Call_Name_kw (ap4 I hg hm ?_ hdb);refine PySem.W.callWith_K (h₀:=X.base) I.ok.mod.kin hk (r6 (ha pos pins s σ H _ I h) fun us s1 ⟨vs,H1,I1,r,q⟩=>⟨I1.kIn,?_⟩) he hpl;exact dp0 F hr hb hd hx I1 r q
end
structure n5 (N P:List Str)(sc:Scope):Prop where
 kind:sc.kind= .function
 co:sc.isCoroutine=false
 gen:sc.isGenerator=false
 nd:N.Nodup
 pre:N.take P.length=P
 par:∀x∈P,sc.names.lookup x=some .local\/sc.names.lookup x=some .cell
 nofree:∀y∈sc.names,y.2≠.free
theorem bq8 {kindOf:Str->Option NameKind}{x:Str}:∀{binds:List (Str×Value)} {m:Str->Option Value},(∀v,(x,v)∉binds)->bindL kindOf binds m x=m x
 |[],_,_=>rfl
 |(n,v)::r,m,h=>by
  unfold bindL;rw[bq8 fun w hw=>h w (ee0 _ hw)]
  split
  · have:x≠n:=by rintro rfl;exact h v ed7
    simp [this]
  · rfl
theorem bq9 {kindOf:Str->Option NameKind}{x:Str}:∀{binds:List (Str×Value)} {m:Str->Option Value},(∀v,(x,v)∉binds)->bindC kindOf binds m x=m x
 |[],_,_=>rfl
 |(n,v)::r,m,h=>by
  unfold bindC;rw[bq9 fun w hw=>h w (ee0 _ hw)]
  split
  · rfl
  · have:x≠n:=by rintro rfl;exact h v ed7
    simp [this]
theorem br0 {kindOf:Str->Option NameKind}{x:Str}{v:Value}:∀{P:List Str} {vs:List Value} {i:Nat} {m:Str->Option Value},P.Nodup->P[i]? =some x->vs[i]? =some v->kindOf x=some .local->
   bindL kindOf (P.zip vs) m x=some v
 |[],_,_,_,_,h,_,_=>by simp at h
 |_::_,[],_,_,_,_,h,_=>by simp at h
 |p::P,w::vs,0,m,nd,h1,h2,hk=>by
  simp at h1 h2;subst h1;subst h2;show bindL kindOf ((p,w)::P.zip vs) m p=_;unfold bindL;rw[bq8 fun v hv=>(ei5.mp nd).1 (ex3 hv).1,if_pos hk];simp
 |p::P,w::vs,i+1,m,nd,h1,h2,hk=>by
  show bindL kindOf ((p,w)::P.zip vs) m x=_;unfold bindL;exact br0 (i:=i) (ei5.mp nd).2 (by simpa using h1) (by simpa using h2) hk
theorem br1 {kindOf:Str->Option NameKind}{x:Str}{v:Value}:∀{P:List Str} {vs:List Value} {i:Nat} {m:Str->Option Value},P.Nodup->P[i]? =some x->vs[i]? =some v->kindOf x≠some .local->
   bindC kindOf (P.zip vs) m x=some v
 |[],_,_,_,_,h,_,_=>by simp at h
 |_::_,[],_,_,_,_,h,_=>by simp at h
 |p::P,w::vs,0,m,nd,h1,h2,hk=>by
  simp at h1 h2;subst h1;subst h2;show bindC kindOf ((p,w)::P.zip vs) m p=_;unfold bindC;rw[bq9 fun v hv=>(ei5.mp nd).1 (ex3 hv).1,if_neg hk];simp
 |p::P,w::vs,i+1,m,nd,h1,h2,hk=>by
  show bindC kindOf ((p,w)::P.zip vs) m x=_;unfold bindC;exact br1 (i:=i) (ei5.mp nd).2 (by simpa using h1) (by simpa using h2) hk
def ag5 (N:List Str)(vs:List V):St:=vs.map some++ef4 (N.length - vs.length) none
def t6 (CX:CXT)(P:Program)(w:World)(K:PySem.W.Frag)(mg:Str->Option Value)(base:Heap)(N:List Str)(qual:Str)(scope:Scope)(f:Addr)(cd:Value)(A:Around)(outer:List Env)(s:Shared)(H:Hp)(E:XK):Cx where
 prog:=P
 w:=w
 K:=K
 mg:=mg
 base:=base
 A:=A.deeper (envOfC qual scope s.heap.objs.size f cd)
 N:=N
 s₀:=s
 H₀:=H
 env:=envOfC qual scope s.heap.objs.size f cd
 outer:=outer
 stack:=envOfC qual scope s.heap.objs.size f cd::outer
 ex:=[]
 calm:=true
 fn:=fun _=>true
 pn:=[]
 xe:=fun e s'=>wpAny (model P w) (A.deeper (envOfC qual scope s.heap.objs.size f cd)) (leaving (envOfC qual scope s.heap.objs.size f cd) e) (fun _ s''=>CX outer H s E e s'') (fun e' s''=>CX outer H s E e' s'') s'
theorem bw7 {sc:Scope}{n:Nat}{x:Str}(h:sc.names.lookup x=some .cell):∃c,(cellsFrom n sc.names []).lookup x=some c:=by
 have q:=PySem.W.cellsFrom_some sc.names n [] (.inl h);exact es0.mp q
theorem cp8 {CX:CXT}{P:Program}{w:World}{K:PySem.W.Frag}{mg:Str->Option Value}{base:Heap}{N ps:List Str}{qual:Str}{scope:Scope}{f:Addr}{cd:Value}{A:Around}{outer:List Env}{s s1:Shared}{H:Hp}{E:XK}{us:List Value}{vs:List V}
   (S:n5 N ps scope) (hd:A.handled=none) (e0:cl5 P w K mg base A outer s H) (hl:vs.length=ps.length) (r:n6 vs us)
   (x:InCallC s s.heap.objs.size (bindL (envOfC qual scope s.heap.objs.size f cd).kindOf (ps.zip us) fun _=>none) (cellsFrom (s.heap.objs.size+1) scope.names []) (bindC (envOfC qual scope s.heap.objs.size f cd).kindOf (ps.zip us) fun _=>none) s1):
   i5 (t6 CX P w K mg base N qual scope f cd A outer s H E) [] (ag5 N vs) H s1:=by
 have hpl:ps.length<=N.length:=by have:=congrArg ex9 S.pre;rw[ee9] at this;omega
 obtain ⟨h1,tk,rfl,hk⟩:=x.done
 have noA:∀b:Addr,b∉(t6 CX P w K mg base N qual scope f cd A outer s H E).ex:=fun b z=>absurd (show b∈([]:List Addr) from z) (by simp)
 refine ⟨⟨e0.mod,S.kind,rfl,rfl,ed5 _,fun y z c h1 h2=> ?_,fun y hy=> ?_,fun y c _ h=> ?_,fun _=>hd,Around.frames_deeper e0.frames,.inr ⟨rfl,rfl⟩,fun b z=>absurd z (noA b),e0.bs,e0.bsz,fun b _ _=>noA b,fun b z=>absurd z (noA b),e0.funs,e0.frf⟩,
   rfl,e0.bare,Un.kept hk,⟨_,x.toInCall.ns,fun i y v h1 h2 h3=> ?_⟩,fun y c h=>⟨_,x.cell y c h⟩,e0.hok.fresh (ed5 _),fun y c h=> ?_,fun p hp=>absurd (show p∈([]:List (Addr×Obj)) from hp) (by simp),e0.hok.kept hk,?_⟩
 · exact name_of_addr x.apart (PySem.mem_of_lookup h1) (PySem.mem_of_lookup h2)
 · have hy:scope.names.lookup y=some .cell\/scope.names.lookup y=some .free:=hy
   rcases hy with hy|hy
   · exact bw7 hy
   · exact absurd rfl (S.nofree _ (PySem.mem_of_lookup hy))
 · exact eh1 (x.above y c (PySem.mem_of_lookup h))
 · have hi:i < vs.length:=by
     unfold ag5 at h2
     by_cases hi:i < vs.length
     · exact hi
     · rw[ef6 (by simpa using hi)] at h2;rw[ew7] at h2
       split at h2<;>cases h2
   have ha:vs[i]? =some v:=by
     unfold ag5 at h2;rw[ef8 (by simpa using hi),ed9] at h2
     cases e:vs[i]? with
     |none=>rw[e] at h2;cases h2
     |some a=>rw[e] at h2;cases h2;rfl
   obtain ⟨u,hu,rv⟩:=r.get ha
   have hp:ps[i]? =some y:=by
     rw[<-S.pre,ei6 (by omega)];exact h1
   have ndP:ps.Nodup:=by rw[<-S.pre];exact S.nd.sublist (List.take_sublist _ _)
   refine ⟨u,rv,?_⟩
   rcases S.par y (ee1 hp) with k|k
   · exact .inl ⟨k,br0 ndP hp hu k⟩
   · obtain ⟨c,e⟩:=bw7 (n:=s.heap.objs.size+1) k;refine .inr ⟨.inl k,c,e,?_⟩;have q:=x.cell y c e;rw[br1 ndP hp hu (by show scope.names.lookup y≠_;rw[k];decide)] at q;exact q
 · exact e0.hok.fresh (eh1 (x.above y c (PySem.mem_of_lookup h)))
 · unfold ag5;show _=N.length;rw[ed6,ed2,en5];omega
theorem df1 {CX:CXT}{P:Program}{w:World}{K:PySem.W.Frag}{mg:Str->Option Value}{base:Heap}{k:Nat}{f:Addr}{name qual:Str}{params:Arguments}{body:List Stmt}{scope:Scope}{dV kV doc pm cdv ct oc:Value}{an od:Option Addr}
   {osl:Array (Option Value)} {N ps:List Str} {sp:Sp} (lk:K.lookup f=some ⟨oc,od,.func (PySem.W.fnOf name qual params body scope dV kV doc pm an cdv ct),osl⟩) (hcd:PySem.W.codeIn K cdv qual=true) (S:n5 N ps scope)
   (len:∀vs H Q E,sp vs H Q E->vs.length=ps.length)
   (hbody:∀(A:Around) (outer:List Env) (s:Shared) (H:Hp) (vs:List V) (Q:VK) (E:XK),l6 k (A.deeper (envOfC qual scope s.heap.objs.size f cdv))->sp vs H Q E->
     ∃t,PSs (t6 CX P w K mg base N qual scope f cdv A outer s H E) body t/\t {nx:=fun _ H'=>Q .non H',rt:=Q} (ag5 N vs) H):
   m9 P w K mg base CX (k+1) f (PySem.W.fnOf name qual params body scope dV kV doc pm an cdv ct) ps sp:=by
 refine ⟨len,fun A outer s H args us vs Q E hr e0 hb r hsp=> ?_⟩;have hl:=len _ _ _ _ hsp
 have KX:K.In s.heap:=e0.mod.kin.keeps fun b o e=>(e0.bs b o e).1
 have lim:s.heap.NoLimit:=e0.mod.nolimit.keeps fun b o e=>(e0.bs b o e).1
 have hkind:∀y∈ps.zip us,scope.names.lookup y.1=some .local\/(scope.names.lookup y.1=some .cell/\((cellsFrom (s.heap.objs.size+1) scope.names []).lookup y.1).isSome=true):=fun ⟨n,v⟩ hy=>by
   rcases S.par n (ex3 hy).1 with q|q
   · exact .inl q
   · exact .inr ⟨q,PySem.W.cellsFrom_some _ _ _ (.inl q)⟩
 refine codeAny_call_function hr.depth (KX _ _ lk) rfl S.co S.gen rfl (PySem.W.codeRec_of KX hcd) (hb _ _ _ _ ?_)
 refine wpAny_newFunctionEnv_cells S.kind hkind fun env he s1 x=> ?_
 subst he;refine ⟨lim.keeps x.toInCall.keep,codeAny_func ?_⟩;obtain ⟨t,ht,hq⟩:=hbody A outer s H vs Q E (hr.deeper _) hsp;have I:i5 (t6 CX P w K mg base N qual scope f cdv A outer s H E) [] (ag5 N vs) H s1:=cp8 S hr.hd e0 hl r x
 refine wpAny_mono (ht [] s1 (ag5 N vs) H _ I hq) (fun fl s' hs=> ?_) fun e s' hs=>hs
 have fin:∀{σ':St} {H':Hp} {v:V} {u:Value},i5 (t6 CX P w K mg base N qual scope f cdv A outer s H E) [] σ' H' s'->o9 v u->Q v H'->CE outer P w H s Q u s':=
   fun {σ' H' v u} J rv q=>⟨v,H',J.os,J.bare,J.base,J.hok,rv,q⟩
 cases fl with
 |ret u=>
  obtain ⟨v,σ',H',J,rv,q⟩:=hs;exact fin J rv q
 |next=>
  obtain ⟨σ',H',J,q⟩:=hs;exact fin (v:=V.non) (u:=Value.none) J rfl q
 |brk=>
  obtain ⟨_,_,_,q⟩:=hs;exact False.elim q
 |cont=>
  obtain ⟨_,_,_,q⟩:=hs;exact False.elim q
end L2
namespace L2
open PySem PySem.Spec PyProof.Rows
section
variable {X:Cx} {x:Str} {p pos:Pos} {e:Expr} {es:List Expr} {t:TA} {id T:String} {r:List V->Hp->VK->Prop}
def tCB (r:List V->Hp->VK->Prop)(t:TA):TE:=fun σ H Q=>t σ H fun vs H1=>r vs H1 Q
theorem U9 (hc:U7 X (.builtin id) r)(hg:Gl X x)(hm:X.mg x=none)(hv:bootBuiltins x=some (.builtin id))(ha:PA X (e::es) t)(hn:x≠"__name__":=by decide)(hdb:(x==("__debug__":Str))=false:=by decide)
   (he:starEach (e::es) X.env=(false,eval e X.env)::starEach es X.env:=by rfl) (hpl:(backTo pos (starEach es X.env)).any (·.1)=false:=by rfl):PE X (.Call (.Name x p) (e::es) [] pos) (tCB r t):=by
 intro pins s σ H Q I h;refine wpAny_Call_Name_kw (ap5 I hg hm hv ?_ hn hdb);exact PyProof.Rows.callWith_builtin1 (r6 (ha pos pins s σ H _ I h) fun us s1 ⟨vs,H1,I1,r1,q1⟩=>hc pins s1 σ H1 vs us Q I1 r1 q1) he hpl
theorem an6 (hc:U7 X (.type T) r)(hg:Gl X x)(hm:X.mg x=none)(hv:bootBuiltins x=some (.type T))(ha:PA X (e::es) t)(hn:x≠"__name__":=by decide)(hdb:(x==("__debug__":Str))=false:=by decide)
   (he:starEach (e::es) X.env=(false,eval e X.env)::starEach es X.env:=by rfl) (hpl:(backTo pos (starEach es X.env)).any (·.1)=false:=by rfl):PE X (.Call (.Name x p) (e::es) [] pos) (tCB r t):=by
 intro pins s σ H Q I h;refine wpAny_Call_Name_kw (ap5 I hg hm hv ?_ hn hdb);exact PyProof.Rows.callWith_type1 (r6 (ha pos pins s σ H _ I h) fun us s1 ⟨vs,H1,I1,r1,q1⟩=>hc pins s1 σ H1 vs us Q I1 r1 q1) he hpl
end
end L2
namespace HT
open PySem PyProof.Rows
def bb3:List Int->List Int->Bool
 |[],[]=>false
 |[],_::_=>true
 |_::_,[]=>false
 |x::xs,y::ys=>if x=y then bb3 xs ys else decide (x < y)
theorem cl6 (x y:Int)(xs ys:List Int):bb3 (x::xs) (y::ys)=if x=y then bb3 xs ys else decide (x < y):=rfl
theorem dh3 (y:Int)(ys:List Int):bb3 [] (y::ys)=true:=rfl
theorem cz7 (A:Around)(s:Shared)(a:Int)(t:Tok)(c:Int)(u:Tok):∃e,SeqAt.EqAt A s (.int a t) (.int c u) e/\(e=true↔a=c):=
 ⟨(a==c),SeqAt.EqAt.int_int a t c u,by simp⟩
theorem cz8 (A:Around)(s:Shared)(a:Int)(t:Tok)(c:Int)(u:Tok)(prog:Program)(w:World)(E:Value->Shared->Prop)(Q:Value->Shared->Prop)(h:Q (.bool (decide (a < c))) s):
   wpAny (model prog w) A (richCompare .Lt (.int a t) (.int c u)) Q E s:=
 (PyProof.Rows.lt_int h:wpAny (model prog w) A (compareOp .Lt (.int a t) (.int c u)) Q E s)
section
variable {prog:Program} {w:World} {A:Around} {E:Value->Shared->Prop} {s:Shared}
def sIx (n d:Nat):Option Int->Nat
 |none=>d
 |some v=>if v < 0 then (v+(n:Int)).toNat else min v.toNat n
theorem ea0 (n d:Nat):sIx n d none=d:=rfl
theorem eb6 (n d k:Nat):sIx n d (some (k:Int))=min k n:=by
 show (if (k:Int) < 0 then ((k:Int)+(n:Int)).toNat else min (k:Int).toNat n)=min k n;rw[if_neg (by omega),ej1]
end
end HT
namespace L2
open PySem PySem.Spec PyProof.Rows
abbrev TO:=St->Hp->(Option Int->Hp->Prop)->Prop
def PO (X:Cx)(e:Option Expr)(t:TO):Prop:=
 ∀(pins:List (Addr×Obj)) (s:Shared) (σ:St) (H:Hp) (Q:Option Int->Hp->Prop),i5 X pins σ H s->t σ H Q->
  wpAny (model X.prog X.w) X.A (evalPart e X.env) (fun u s'=>∃o H',i5 X pins σ H' s'/\IsPart u o/\Q o H') X.xe s
def dh4:TO:=fun _ H Q=>Q none H
def du9 (t:TE):TO:=fun σ H Q=>t σ H fun x H1=>∃i,x= .int i/\Q (some i) H1
theorem as2 {ns:List Int}:∀{us:List Value},n6 (ns.map V.int) us->IntsAre us ns:=by
 induction ns with
 |nil=>intro us r;rw[ep4] at r;cases r;exact .nil
 |cons n ns ih=>
  intro us r;rw[eh0] at r
  cases r with
  |cons r1 r2=>
   obtain ⟨t,e⟩:=r1;subst e;exact .cons n t (ih r2)
section
variable {X:Cx} {e:Expr} {te:TE} {lo hi:Option Expr} {tl th:TO} {pos p2:Pos}
theorem S3:PO X none dh4:=by
 intro pins s σ H Q I h;rw[evalPart_none];exact wpAny_pure ⟨none,H,I,.none,h⟩
theorem Q0 (h:PE X e te):PO X (some e) (du9 te):=by
 intro pins s σ H Q I hw;rw[evalPart_some]
 refine r6 (h pins s σ H _ I hw) fun u s1 ⟨x,H1,I1,r1,q1⟩=> ?_
 obtain ⟨i,rfl,q⟩:=q1;obtain ⟨t,rfl⟩:=r1;exact ⟨some i,H1,I1,.int i t,q⟩
def SlR (X:Cx)(r:V->Option Int->Option Int->Hp->VK->Prop):Prop:=
 ∀(pins:List (Addr×Obj)) (s:Shared) (σ:St) (H:Hp) (x:V) (v vl vu:Value) (lo hi:Option Int) (sl:Addr) (Q:VK),i5 X pins σ H s->o9 x v->s.heap.IsSliceOf sl vl vu .none->IsPart vl lo->IsPart vu hi->r x lo hi H Q->
  ∃T id,typeLookup (.type T) "__getitem__"=pure (some (.builtin id))/\s.TypeIs v T/\wpAny (model X.prog X.w) X.A (getItem v (.ref sl)) (EP X pins σ Q) X.xe s
def tSl (r:V->Option Int->Option Int->Hp->VK->Prop)(te:TE)(tl th:TO):TE:=fun σ H Q=>te σ H fun x H1=>tl σ H1 fun l H2=>th σ H2 fun u H3=>r x l u H3 Q
theorem O9 {r:V->Option Int->Option Int->Hp->VK->Prop}(hr:SlR X r)(he:PE X e te)(hl:PO X lo tl)(hu:PO X hi th):PE X (.Subscript e (.Slice lo hi none p2) pos) (tSl r te tl th):=by
 intro pins s σ H Q I h;refine Subscript_ (r6 (he pins s σ H _ I h) fun v s1 ⟨x,H1,I1,r1,q1⟩=> ?_);refine wpAny_Slice (r6 (hl pins s1 σ H1 _ I1 q1) fun vl s2 ⟨l,H2,I2,pl,q2⟩=>r6 (hu pins s2 σ H2 _ I2 q2) fun vu s3 ⟨u,H3,I3,pu,q3⟩=> ?_);rw[evalPart_none];refine wpAny_pure ?_
 have I4:i5 X pins σ H3 {s3 with heap:=s3.heap.push {cls:= .type "slice",data:= .fields #[vl,vu,.none]}}:=I3.kept (t':=s3.toks) fun b ob q=>Heap.get?_push_of_some _ q
 obtain ⟨T,id,hT,ht,hg⟩:=hr pins {s3 with heap:=s3.heap.push {cls:= .type "slice",data:= .fields #[vl,vu,.none]}} σ H3 x v vl vu l u s3.heap.objs.size Q I4 r1 (Heap.IsSliceOf.new ..) pl pu q3;show wpAny (model X.prog X.w) X.A (subscriptTail e (.Slice lo hi none p2) v (.ref s3.heap.objs.size)) (EP X pins σ Q) X.xe {s3 with heap:=s3.heap.push {cls:= .type "slice",data:= .fields #[vl,vu,.none]}};exact tail_any (ops:=[.ref s3.heap.objs.size,v]) ht hT hg (by with_unfolding_all rfl)
def w5 (xs:List V)(lo hi:Option Int):List V:=(xs.drop (HT.sIx xs.length 0 lo)).take (HT.sIx xs.length xs.length hi - HT.sIx xs.length 0 lo)
theorem bd2 (xs:List V)(lo hi:Option Int):(w5 xs lo hi).length<=xs.length:=by
 unfold w5;rw[ee9,eg5];omega
end
end L2
namespace L2
open PySem PySem.Spec PyProof.Rows
def ixN (n:Nat)(i:Int):Option Nat:=if 0<=i then (if i < n then some i.toNat else none) else if -(n:Int)<=i then some (i+n).toNat else none
def atI {α:Type}(xs:List α)(i:Int):Option α:=(ixN xs.length i).bind fun j=>xs[j]?
theorem bm2 {n:Nat}{i:Int}{j:Nat}(h:ixN n i=some j):seqIndex? i n=some j/\j < n/\ -(n:Int)<=i/\i < n:=by
 unfold ixN at h
 by_cases h0:0<=i
 · rw[if_pos h0] at h
   by_cases h1:i < n
   · rw[if_pos h1] at h;have e:i.toNat=j:=Option.some.inj h;exact ⟨by rw[seqIndex_of h0 h1,e],by omega,by omega,h1⟩
   · rw[if_neg h1] at h;cases h
 · rw[if_neg h0] at h
   by_cases h1: -(n:Int)<=i
   · rw[if_pos h1] at h;have e:(i+n).toNat=j:=Option.some.inj h;exact ⟨by rw[seqIndex_neg (by omega) h1,e],by omega,h1,by omega⟩
   · rw[if_neg h1] at h;cases h
theorem dh5 {α:Type}{xs:List α}{i:Int}{v:α}(h:atI xs i=some v):∃j,seqIndex? i xs.length=some j/\xs[j]? =some v/\j < xs.length/\ -(xs.length:Int)<=i/\i < xs.length:=by
 unfold atI at h
 cases e:ixN xs.length i with
 |none=>rw[e] at h;cases h
 |some j=>
  rw[e] at h;obtain ⟨h1,h2,h3,h4⟩:=bm2 e;exact ⟨j,h1,h,h2,h3,h4⟩
theorem S4 {α:Type}{xs:List α}{j:Nat}{v:α}(h:xs[j]? =some v):atI xs (j:Int)=some v:=by
 have hj:j < xs.length:=(ed3.mp h).1
 have e:ixN xs.length (j:Int)=some j:=by
   unfold ixN;rw[if_pos (by omega),if_pos (by omega)];simp
 unfold atI;rw[e];exact h
def dh6 (b:Expr):Prop:=∀o i,subscripted b false o i=operate [o,i] (getItem o i)
def IxR (X:Cx)(r:R2):Prop:=
 ∀(value slice:Expr) (pins:List (Addr×Obj)) (s:Shared) (σ:St) (H:Hp) (x y:V) (v u:Value) (Q:VK),i5 X pins σ H s->o9 x v->o9 y u->r x y H Q->
  subscripted slice false v u=operate [v,u] (getItem v u)->wpAny (model X.prog X.w) X.A (subscriptTail value slice v u) (EP X pins σ Q) X.xe s
def MtR (X:Cx)(id:String)(r:V->List V->Hp->VK->Prop):Prop:=
 ∀(pins:List (Addr×Obj)) (s:Shared) (σ:St) (H:Hp) (x:V) (xs:List V) (v:Value) (us:List Value) (Q:VK),i5 X pins σ H s->o9 x v->n6 xs us->r x xs H Q->
  wpAny (model X.prog X.w) X.A (call (.builtin id) (v::us)) (EP X pins σ Q) X.xe s
section
variable {X:Cx} {a b:Expr} {ta tb:TE} {pos:Pos}
theorem N7 {r:R2}(hr:IxR X r)(ha:PE X a ta)(hb:PE X b tb)(hs:dh6 b):PE X (.Subscript a b pos) (tOp r ta tb):=by
 intro pins s σ H Q I h;exact Subscript_ (cz4 ha hb I h fun v u s2 x y H2 I2 rx ry q=>hr a b pins s2 σ H2 x y v u Q I2 rx ry q (hs _ _))
def dp1 (K:PySem.W.Frag):R2:=fun x y H Q=>∃p xs i v,x= .ref p/\y= .int i/\g9 K H p xs/\atI xs i=some v/\Q v H
theorem G1:IxR X (dp1 X.K):=by
 intro value slice pins s σ H x y v u Q I rx ry h hs;obtain ⟨p,xs,i,z,rfl,rfl,hq,he,q⟩:=h;cases rx;obtain ⟨t,rfl⟩:=ry;obtain ⟨its,r,pl,hz⟩:=I.list hq;obtain ⟨j,h1,h2,h3,h4,h5⟩:=dh5 he;obtain ⟨w,ew,rw'⟩:=r.get h2;have hl:=r.length;have hn:=bw6;have fin:EP X pins σ Q w s:=⟨z,H,I,rw',q⟩
 by_cases h0:0<=i
 · have hj:i.toNat=j:=by
     rw[seqIndex_of h0 h5] at h1;exact Option.some.inj h1
   exact item_listR pl.isList h0 (by omega) (by rw[hj];simpa using ew) fin hs
 · have hj:(i+(its.toArray.size:Int)).toNat=j:=by
     rw[seqIndex_neg (by omega) h4] at h1;rw[ee7,<-hl];exact Option.some.inj h1
   exact subscriptTail_builtinR (x:=w) pl.isList.typeIs slot_list_getitem.lookup
     (wpAny_getItem_list_neg (Q:=fun r s'=>r=w/\EP X pins σ Q r s') pl.isList (by omega) (by rw[ee7]<;>omega) (by omega) (by rw[hj];simpa using ew) ⟨rfl,fin⟩) hs
theorem cl7 (its:List Value)(n j:Nat)(u:Value):Obj.mapSeq (·.setIfInBounds j u) {cls:= .type "list",data:= .seq its.toArray n}={cls:= .type "list",data:= .seq (its.set j u).toArray n}:=by
 simp [Obj.mapSeq]
theorem i5.lst {pins:List (Addr×Obj)}{σ:St}{H:Hp}{s:Shared}{p:Addr}{xs:List V}(I:i5 X pins σ H s)(h:H p=some (.lst xs)):
   ∃(its:List Value) (n:Nat),n6 xs its/\s.heap.get? p=some {cls:= .type "list",data:= .seq its.toArray n}/\xs.length<=sizeLine:=by
 obtain ⟨z,its,n,r,e⟩:=I.hok p _ h;exact ⟨its,n,r,e,z⟩
theorem i5.lstUpd {pins:List (Addr×Obj)}{σ:St}{H:Hp}{s:Shared}{p:Addr}{xs ys:List V}{its its':List Value}{n n':Nat}{f:Obj->Obj}(I:i5 X pins σ H s)(h:H p=some (.lst xs))
   (ho:s.heap.get? p=some {cls:= .type "list",data:= .seq its.toArray n}) (hf:f {cls:= .type "list",data:= .seq its.toArray n}={cls:= .type "list",data:= .seq its'.toArray n'}) (r:n6 ys its') (hz:ys.length<=sizeLine) (t:Nat):
   i5 X pins σ (c9 H p (.lst ys)) {s with heap:=s.heap.update p f,toks:=t}:=by
 have e:(s.heap.update p f).get? p=some {cls:= .type "list",data:= .seq its'.toArray n'}:=by
   rw[Heap.get?_update_self f ho (by rw[hf]<;>rfl),hf]
 refine I.write (x:=p) (e:=p) (by rw[h];trivial) (.inl rfl) (fun b u hb q=>(Heap.get?_update_other _ _ (Ne.symm hb)).trans q) ⟨_,e⟩ ?_;exact ⟨hz,its',n',r,e⟩
def dv0:V->V->V->Hp->(Hp->Prop)->Prop:=fun o i v H Q=>∃p xs k j,o= .ref p/\i= .int k/\H p=some (.lst xs)/\ixN xs.length k=some j/\Q (c9 H p (.lst (xs.set j v)))
theorem ae3:do0 X dv0:=by
 intro pins s σ H o i v ov iv u Q I ro ri rv h;obtain ⟨p,xs,k,j,rfl,rfl,hp,hj,q⟩:=h;cases ro;obtain ⟨t,rfl⟩:=ri;obtain ⟨its,n,r,ho,hz⟩:=I.lst hp;obtain ⟨h1,h2,h3,h4⟩:=bm2 hj;have hl:=r.length;have hn:=bw6
 have I':i5 X pins σ (c9 H p (.lst (xs.set j v))) {s with heap:=s.heap.update p (Obj.mapSeq (·.setIfInBounds j u))}:=
   I.lstUpd hp ho (cl7 its n j u) (r.set rv j) (by rw[en9];exact hz) s.toks
 by_cases h0:0<=k
 · have hk:k.toNat=j:=by
     rw[seqIndex_of h0 h4] at h1;exact Option.some.inj h1
   exact PySem.W.ki_setAt ho h0 (by omega) (by rw[ee7,<-hl];exact h4) (by rw[hk];exact ⟨_,I',q⟩)
 · have hk:(k+(its.toArray.size:Int)).toNat=j:=by
     rw[seqIndex_neg (by omega) h3] at h1;rw[ee7,<-hl];exact Option.some.inj h1
   exact PySem.W.ki_setBack ho (by omega) (by rw[ee7,<-hl];exact h3) (by omega) (by rw[hk];exact ⟨_,I',q⟩)
theorem bw8 (lo hi:Option Int)(n:Nat):(sliceBounds lo hi none n).1=((HT.sIx n 0 lo:Nat):Int)/\(sliceBounds lo hi none n).2.1=((HT.sIx n n hi:Nat):Int)/\(sliceBounds lo hi none n).2.2=1:=by
 refine ⟨?_,?_,rfl⟩
 · cases lo with
   |none=>simp [sliceBounds,HT.sIx]
   |some i=>
    simp only[sliceBounds,HT.sIx,Option.getD_none,show (1:Int) > 0 by decide,if_true]
    by_cases h:i < 0
    · simp only[h,if_true]<;>omega
    · simp only[h,if_false]<;>omega
 · cases hi with
   |none=>simp [sliceBounds,HT.sIx]
   |some i=>
    simp only[sliceBounds,HT.sIx,Option.getD_none,show (1:Int) > 0 by decide,if_true]
    by_cases h:i < 0
    · simp only[h,if_true]<;>omega
    · simp only[h,if_false]<;>omega
theorem bu0 (its:List Value)(lo hi:Option Int):slicePick its.toArray lo hi none=((its.drop (HT.sIx its.length 0 lo)).take (HT.sIx its.length its.length hi - HT.sIx its.length 0 lo)).toArray:=by
 obtain ⟨h1,h2,h3⟩:=bw8 lo hi its.toArray.size;unfold slicePick;rw[h1,h2,h3]
 simp only[sliceRange_one,pick_run,ee7]<;>rfl
def ea1 (K:PySem.W.Frag):V->Option Int->Option Int->Hp->VK->Prop:=fun x lo hi H Q=>∃a xs,x= .ref a/\g9 K H a xs/\∀p,H p=none->Q (.ref p) (c9 H p (.lst (w5 xs lo hi)))
theorem S6:SlR X (ea1 X.K):=by
 intro pins s σ H x v vl vu lo hi sl Q I rx hs pl pu h;obtain ⟨a,xs,rfl,hx,q⟩:=h;cases rx;obtain ⟨its,r,ht,hz⟩:=I.list hx;have hlen:=r.length;refine ⟨"list",_,slot_list_getitem.lookup,ht.isList.typeIs,?_⟩;refine wpAny_getItem_list_slice ht.isList hs pl pu .none (by simp) ?_ (by rw[ee7]<;>omega);rw[bu0,<-hlen];refine ⟨.ref s.heap.objs.size,_,I.laid (t':=s.toks) (o:= .lst (w5 xs lo hi)) (fun b ob q=>Heap.get?_push_of_some _ q) (ed5 _) ?_,rfl,q _ (I.hok.fresh (ed5 _))⟩;exact ⟨ee6 (bd2 xs lo hi) hz,_,0,(r.drop (HT.sIx xs.length 0 lo)).take (HT.sIx xs.length xs.length hi - HT.sIx xs.length 0 lo),Heap.get?_push_size _ rfl⟩
def W7:V->Bool
 | .non=>true
 | .bl _=>true
 | .int _=>true
 | .str _=>true
 |_=>false
def eqV:V->V->Bool
 | .non,.non=>true
 | .bl a,.bl b=>a==b
 | .bl a,.int b=>(if a then 1 else 0)==b
 | .int a,.bl b=>a==(if b then 1 else 0)
 | .int a,.int b=>a==b
 | .str a,.str b=>a==b
 |_,_=>false
theorem cp9 {A:Around}{s:Shared}{y x:V}{u v:Value}(ry:o9 y u)(rx:o9 x v)(fy:W7 y=true)(fx:W7 x=true):SeqAt.EqAt A s u v (eqV y x):=by
 cases y with
 |non=>
  cases ry
  cases x with
  |non=>cases rx;exact SeqAt.EqAt.same _
  |bl b=>cases rx;exact SeqAt.EqAt.none_bool b
  |int b=>obtain ⟨t,rfl⟩:=rx;exact SeqAt.EqAt.none_int b t
  |str b=>obtain ⟨t,rfl⟩:=rx;exact SeqAt.EqAt.none_str b t
  |_=>exact absurd (show false=true from fx) ef3
 |bl a=>
  cases ry
  cases x with
  |non=>cases rx;exact SeqAt.EqAt.bool_none a
  |bl b=>cases rx;exact SeqAt.EqAt.bool_bool a b
  |int b=>obtain ⟨t,rfl⟩:=rx;exact SeqAt.EqAt.bool_int a b t
  |str b=>obtain ⟨t,rfl⟩:=rx;exact SeqAt.EqAt.bool_str a b t
  |_=>exact absurd (show false=true from fx) ef3
 |int a=>
  obtain ⟨t',rfl⟩:=ry
  cases x with
  |non=>cases rx;exact SeqAt.EqAt.int_none a t'
  |bl b=>cases rx;exact SeqAt.EqAt.int_bool a t' b
  |int b=>obtain ⟨t,rfl⟩:=rx;exact SeqAt.EqAt.int_int a t' b t
  |str b=>obtain ⟨t,rfl⟩:=rx;exact SeqAt.EqAt.int_str a t' b t
  |_=>exact absurd (show false=true from fx) ef3
 |str a=>
  obtain ⟨t',rfl⟩:=ry
  cases x with
  |non=>cases rx;exact SeqAt.EqAt.str_none a t'
  |bl b=>cases rx;exact SeqAt.EqAt.str_bool a t' b
  |int b=>obtain ⟨t,rfl⟩:=rx;exact SeqAt.EqAt.str_int a t' b t
  |str b=>obtain ⟨t,rfl⟩:=rx;exact SeqAt.EqAt.str_str a t' b t
  |_=>exact absurd (show false=true from fx) ef3
 |_=>exact absurd (show false=true from fy) ef3
def eqU (x:V)(u:Value):Bool:=match u with
 | .none=>eqV .non x
 | .bool b=>eqV (.bl b) x
 | .int i _=>eqV (.int i) x
 | .str z _=>eqV (.str z) x
 |_=>false
theorem bw9 {x y:V}{u:Value}(r:o9 y u)(f:W7 y=true):eqU x u=eqV y x:=by
 cases y with
 |non=>cases r;rfl
 |bl b=>cases r;rfl
 |int i=>obtain ⟨t,rfl⟩:=r;rfl
 |str z=>obtain ⟨t,rfl⟩:=r;rfl
 |_=>exact absurd (show false=true from f) ef3
theorem be7 {A:Around}{s:Shared}{x:V}{v:Value}(rx:o9 x v)(fx:W7 x=true):∀{xs:List V} {us:List Value},n6 xs us->xs.all W7=true->∀u∈us,SeqAt.EqAt A s u v (eqU x u)
 |_,_,.nil,_=>fun u hu=>by cases hu
 |y::xs,u::us,.cons r t,f=>fun u' hu=>by
  rw[ev5,eg7] at f
  rcases ee8.mp hu with rfl|hu
  · rw[bw9 r f.1];exact cp9 r rx f.1 fx
  · exact be7 rx fx t f.2 u' hu
theorem bx0:U7 X (.builtin "len") (fun xs H Q=>∃p ys,xs=[.ref p]/\(g9 X.K H p ys\/R6 X.K H p ys)/\Q (.int ys.length) H):=by
 intro pins s σ H xs us Q I r h;obtain ⟨p,ys,rfl,hq,q⟩:=h;obtain ⟨u,rfl,rx⟩:=aj3 r;cases rx;have hn:=bw6
 rcases hq with hq|hq
 · obtain ⟨its,r',pl,hz⟩:=I.list hq;have hlen:=r'.length;exact Calls.call_len_list pl.isList (by simp only[ee7]<;>omega) ⟨.int ys.length,H,I.tok _,⟨s.toks+1,by rw[ee7,hlen]⟩,q⟩
 · obtain ⟨its,r',pl,hz⟩:=I.tuple hq;have hlen:=r'.length;exact len_tuple pl (by simp only[ee7]<;>omega) ⟨.int ys.length,H,I.tok _,⟨s.toks+1,by rw[ee7,hlen]⟩,q⟩
theorem bx1:U7 X (.type "list") (fun xs H Q=>∃p ys,xs=[.ref p]/\(g9 X.K H p ys\/R6 X.K H p ys)/\∀l,H l=none->Q (.ref l) (c9 H l (.lst ys))):=by
 intro pins s σ H xs us Q I r h;obtain ⟨p,ys,rfl,hq,q⟩:=h;obtain ⟨u,rfl,rx⟩:=aj3 r;cases rx
 have fin:∀(its:List Value),n6 ys its->ys.length<=sizeLine->∀(h':Heap) (c':Nat),(∀b o',s.heap.get? b=some o'->h'.get? b=some o')->
     h'.get? s.heap.objs.size=some {cls:= .type "list",dict:=none,data:= .seq its.toArray c',slots:= #[]}->EP X pins σ Q (.ref s.heap.objs.size) {s with heap:=h'}:=fun its r' hz h' c' kp e=>
   ⟨.ref s.heap.objs.size,_,I.laid (t':=s.toks) kp (ed5 _) (show y9 X.prog X.w _ h' _ (.lst ys) from ⟨hz,its,c',r',e⟩),rfl,q _ (I.hok.fresh (ed5 _))⟩
 rcases hq with hq|hq
 · obtain ⟨its,r',pl,hz⟩:=I.list hq;have hlen:=r'.length;obtain ⟨o,ho,hc,n,hd⟩:=pl.isList;exact call_list_seq p (.inl rfl) ho hc hd (fun h' c' kp e=>fin its r' hz h' c' kp e) (by simp only[ee7]<;>omega)
 · obtain ⟨its,r',pl,hz⟩:=I.tuple hq;have hlen:=r'.length;obtain ⟨o,ho,hc,n,hd⟩:=pl;exact call_list_seq p (.inr rfl) ho hc hd (fun h' c' kp e=>fin its r' hz h' c' kp e) (by simp only[ee7]<;>omega)
def tyV (K:PySem.W.Frag)(T:String)(x:V)(H:Hp):Prop:=match x with
 | .str _=>T="str"
 | .int _=>T="int"
 | .ref p=>(T="list"/\∃xs,g9 K H p xs)\/(T="tuple"/\∃o,K.lookup p=some o/\o.cls= .type "tuple"/\o.dict=none)\/
     (T="dict"/\((∃kvs,H p=some (.dK kvs))\/∃kvs,H p=some (.dT kvs)))\/(T="set"/\∃S n,H p=some (.set S n))
 |_=>False
theorem cq0 {pins:List (Addr×Obj)}{σ:St}{H:Hp}{s:Shared}{T:String}{x:V}{v:Value}(I:i5 X pins σ H s)(r:o9 x v)(ty:tyV X.K T x H):
   s.TypeIs v T/\∀a,v= .ref a->∃ob,s.heap.get? a=some ob/\ob.dict=none:=by
 cases x with
 |str z=>
  obtain ⟨t,rfl⟩:=r;cases (show T="str" from ty);exact ⟨typeIs_str s z t,fun _ e=>nomatch e⟩
 |int i=>
  obtain ⟨t,rfl⟩:=r;cases (show T="int" from ty);exact ⟨typeIs_int s i t,fun _ e=>nomatch e⟩
 |ref p=>
  cases r
  rcases ty with ⟨rfl,xs,hq⟩|⟨rfl,o,hk,hc,hd⟩|⟨rfl,hk⟩|⟨rfl,S,n,hk⟩
  · obtain ⟨its,_,pl,_⟩:=I.list hq;refine ⟨pl.isList.typeIs,fun a e=> ?_⟩;cases e;obtain ⟨o,n,e,c,hd,_⟩:=pl;exact ⟨o,e,hd⟩
  · refine ⟨⟨o,I.kIn p o hk,hc⟩,fun a e=> ?_⟩;cases e;exact ⟨o,I.kIn _ o hk,hd⟩
  · have z:∃o,s.heap.get? p=some o/\o.ExactDict:=by
      rcases hk with ⟨kvs,hk⟩|⟨kvs,hk⟩
      · obtain ⟨_,_,_,_,o,_,_,e,ex,_⟩:=I.hok p _ hk;exact ⟨o,e,ex⟩
      · obtain ⟨_,_,_,_,o,_,_,e,ex,_⟩:=I.hok p _ hk;exact ⟨o,e,ex⟩
    obtain ⟨o,e,ex⟩:=z;refine ⟨⟨o,e,ex.1⟩,fun a e2=> ?_⟩;cases e2;exact ⟨o,e,ex.2.1⟩
  · obtain ⟨o,_,_,_,e,ex,_⟩:=I.hok p _ hk;refine ⟨⟨o,e,ex.1⟩,fun a e2=> ?_⟩;cases e2;exact ⟨o,e,ex.2.1⟩
 |_=>exact False.elim ty
def dp3 (K:PySem.W.Frag)(T:String)(r:V->List V->Hp->VK->Prop)(to:TE):TE:=fun σ H Q=>to σ H fun x H1=>tyV K T x H1/\r x [] H1 Q
def tBM (K:PySem.W.Frag)(T:String)(r:V->List V->Hp->VK->Prop)(to:TE)(t:TA):TE:=fun σ H Q=>to σ H fun x H1=>tyV K T x H1/\t σ H1 fun xs H2=>r x xs H2 Q
variable {o e:Expr} {es:List Expr} {to:TE} {t:TA} {name:Str} {apos cpos:Pos} {T id:String} {r:V->List V->Hp->VK->Prop}
theorem dp4 (pa:PlainAttrs T)(slot:Slot T name id)(hty:typeOf (.builtin id)=pure (.type "method_descriptor"))(hm:MtR X id r)(ho:PE X o to)
   (hbase:attributeBase o name X.env (eval o X.env)=eval o X.env:=by rfl) (hline:(apos.endLine==cpos.line)=true:=by rfl):PE X (.Call (.Attribute o name apos) [] [] cpos) (dp3 X.K T r to):=by
 intro pins s σ H Q I h;refine wpAny_Call_method0_late hbase hline (r6 (ho pins s σ H _ I h) fun v s1 ⟨x,H1,I1,r1,ty,q1⟩=> ?_);obtain ⟨h1,h2⟩:=cq0 I1 r1 ty;exact ⟨T,id,pa,slot,hty,h1,h2,Calls.callWith_builtin rfl (PySem.evalArgs_none (hm pins s1 σ H1 x [] v [] Q I1 r1 .nil q1))⟩
theorem bi1 (pa:PlainAttrs T)(slot:Slot T name id)(hty:typeOf (.builtin id)=pure (.type "method_descriptor"))(hm:MtR X id r)(ho:PE X o to)(ha:PA X (e::es) t)
   (hbase:attributeBase o name X.env (eval o X.env)=eval o X.env:=by rfl)
   (hfew:((backTo cpos (starEach (e::es) X.env)).all (fun x=> !x.1)&&(backToKw cpos (keywordEach [] X.env)).all (fun x=>x.1.isSome)
     &&decide ((e::es).length+([]:List Keyword).length+(if ([]:List Keyword).isEmpty then 0 else 1) < 30))=true:=by rfl)
   (hline:(apos.endLine==cpos.line)=true:=by rfl) (hs:starEach (e::es) X.env=(false,eval e X.env)::starEach es X.env:=by rfl) (hplain:(backTo cpos (starEach es X.env)).any (·.1)=false:=by rfl):
   PE X (.Call (.Attribute o name apos) (e::es) [] cpos) (tBM X.K T r to t):=by
 intro pins s σ H Q I h;refine wpAny_Call_method_late hbase hfew hline rfl (r6 (ho pins s σ H _ I h) fun v s1 ⟨x,H1,I1,r1,ty,q1⟩=> ?_);obtain ⟨h1,h2⟩:=cq0 I1 r1 ty;refine ⟨T,id,pa,slot,hty,h1,h2,?_⟩;have hA:=ha cpos pins s1 σ H1 _ I1 q1;rw[hs] at hA ⊢;refine Calls.callWith_builtin (by show (false||(backTo cpos (starEach es X.env)).any (·.1))=false;rw[hplain]<;>rfl) (Calls.evalArgs_plain ?_)
 exact r6 hA fun us s2 ⟨vs,H2,I2,r2,q2⟩=>hm pins s2 σ H2 x vs v us Q I2 r1 r2 q2
end
end L2
namespace L2
open PySem PySem.Spec PyProof.Rows
def MtM (X:Cx)(id:String)(r:V->List V->Hp->VK->Prop):Prop:=
 ∀(pins:List (Addr×Obj)) (s:Shared) (σ:St) (H:Hp) (x:V) (xs:List V) (v:Value) (us:List Value) (Q:VK),i5 X pins σ H s->o9 x v->n6 xs us->r x xs H Q->
  wpAny (model X.prog X.w) X.A (call (.builtin id) (v::us)) (EP X pins σ Q) X.xe s
theorem n6.one:∀{x:V} {us:List Value},n6 [x] us->∃u,us=[u]/\o9 x u
 |_,_,.cons r .nil=>⟨_,rfl,r⟩
theorem n6.zero:∀{us:List Value},n6 [] us->us=[]
 |_,.nil=>rfl
theorem n6.dropLast {xs:List V}{us:List Value}(h:n6 xs us):n6 xs.dropLast us.dropLast:=by
 induction h with
 |nil=>exact .nil
 |cons r t ih=>
  cases t with
  |nil=>exact .nil
  |cons q t'=>exact .cons r ih
theorem n6.eraseIdx:∀{xs:List V} {us:List Value} (i:Nat),n6 xs us->n6 (xs.eraseIdx i) (us.eraseIdx i)
 |_,_,_,.nil=> .nil
 |_,_,0,.cons _ t=>t
 |_,_,i+1,.cons r t=> .cons r (n6.eraseIdx i t)
theorem n6.reverse {xs:List V}{us:List Value}(h:n6 xs us):n6 xs.reverse us.reverse:=by
 induction h with
 |nil=>exact .nil
 |cons r t ih=>rw[List.reverse_cons,List.reverse_cons];exact n6.append ih (.cons r .nil)
theorem n6.rep {xs:List V}{us:List Value}(h:n6 xs us):∀k:Nat,n6 (ef4 k xs).flatten (ef4 k us).flatten
 |0=> .nil
 |k+1=>by
  rw[em8,em8,eh4,eh4];exact n6.append h (n6.rep h k)
theorem cl8 {α:Type}(l:List α):l.eraseIdx (l.length - 1)=l.dropLast:=by
 induction l with
 |nil=>rfl
 |cons a r ih=>
  cases r with
  |nil=>rfl
  |cons b r=>
   have e:(a::b::r).length - 1=((b::r).length - 1)+1:=by
     have h1:(a::b::r).length=r.length+2:=rfl;have h2:(b::r).length=r.length+1:=rfl;omega
   rw[e,List.eraseIdx_cons_succ,ih]
   all_goals rfl
theorem br2 {α:Type}:∀(l:List α) (i:Nat),(l.eraseIdx i).length<=l.length
 |[],_=>ed5 _
 |_::_,0=>eq7 _
 |_::r,i+1=>et0 (br2 r i)
theorem br3 (its:List Value):∀(k:Nat) (acc:List Value),
   List.foldl (fun x1 x2=>x1++x2) acc.toArray (ef4 k its.toArray)=(acc++(ef4 k its).flatten).toArray
 |0,acc=>by simp
 |k+1,acc=>by
  have e:acc.toArray++its.toArray=(acc++its).toArray:=by simp
  have e2:(acc++its)++(ef4 k its).flatten=acc++(ef4 (k+1) its).flatten:=by
    rw[em8,eh4,ef2]
  rw[<-e2,<-br3 its k (acc++its),<-e,em8,List.foldl_cons]
section
variable {X:Cx} {pins:List (Addr×Obj)} {σ:St} {H:Hp} {s:Shared} {l b:Addr} {xs ys zs:List V}
theorem i5.lset {its its':List Value}{n:Nat}{f:Array Value->Array Value}{t':Nat}(I:i5 X pins σ H s)(hH:H l=some (.lst xs))
   (e:s.heap.get? l=some {cls:= .type "list",data:= .seq its.toArray n}) (hf:f its.toArray=its'.toArray) (hv:n6 ys its') (hz:ys.length<=sizeLine):
   i5 X pins σ (c9 H l (.lst ys)) {s with heap:=s.heap.update l (Obj.mapSeq f),toks:=t'}:=by
 have q:=PySem.IsL.update e f;rw[hf] at q;refine I.write (x:=l) (e:=l) (by rw[hH];exact trivial) (.inl rfl) (fun b' u hb hu=>(Heap.get?_update_other s.heap (Obj.mapSeq f) (Ne.symm hb)).trans hu) ⟨_,q⟩ ?_;exact ⟨hz,its',_,hv,q⟩
theorem i5.lnew {its:List Value}{t':Nat}(I:i5 X pins σ H s)(hv:n6 ys its)(hz:ys.length<=sizeLine):
   i5 X pins σ (c9 H s.heap.objs.size (.lst ys)) {s with heap:=s.heap.push {cls:= .type "list",data:= .seq its.toArray},toks:=t'}:=
 I.laid (fun _ _ q=>Heap.get?_push_of_some _ q) (ed5 _) ⟨hz,its,0,hv,Heap.get?_push_size _ rfl⟩
theorem i5.fresh (I:i5 X pins σ H s):H s.heap.objs.size=none:=I.hok.fresh (ed5 _)
theorem i5.lstM (I:i5 X pins σ H s)(hH:H l=some (.lst xs)):xs.length<=sizeLine/\∃(its:List Value) (n:Nat),n6 xs its/\xs.length=its.length/\s.heap.get? l=some {cls:= .type "list",data:= .seq its.toArray n}:=by
 obtain ⟨z,its,n,r,e⟩:=I.hok l _ hH;exact ⟨z,its,n,r,r.length,e⟩
theorem cz9 {n:Nat}(h:n<=sizeLine):Builtin.List.listTooLong n=false:=by
 unfold Builtin.List.listTooLong;exact decide_eq_false (by omega)
end
section
variable {X:Cx}
def ch4:V->List V->Hp->VK->Prop:=fun x vs H Q=>∃l xs y,x= .ref l/\vs=[y]/\H l=some (.lst xs)/\xs.length < sizeLine/\Q .non (c9 H l (.lst (xs++[y])))
theorem cq1:MtM X "list.append" ch4:=by
 intro pins s σ H x vs v us Q I rx rv h;obtain ⟨l,xs,y,rfl,rfl,hH,hz,q⟩:=h;cases rx;obtain ⟨u,rfl,ru⟩:=rv.one;obtain ⟨z,its,n,r,hl,e⟩:=I.lstM hH;refine call_meets F.slot_list_append ⟨_,e,rfl⟩ F.entry_list_append (F.args_list_append_2 _ _) (PySem.list_append l its.toArray n u (by rw[ee7];omega)) ⟨e,?_⟩;refine ⟨.non,_,I.lset (its':=its++[u]) hH e (by simp) (r.append (.cons ru .nil)) ?_,rfl,q⟩;rw[ed6,ej7];omega
def dp5:V->List V->Hp->VK->Prop:=fun x vs H Q=>∃l xs y,x= .ref l/\vs=[]/\H l=some (.lst xs)/\xs[xs.length - 1]? =some y/\Q y (c9 H l (.lst xs.dropLast))
theorem dp6:MtM X "list.pop" dp5:=by
 intro pins s σ H x vs v us Q I rx rv h;obtain ⟨l,xs,y,rfl,rfl,hH,hy,q⟩:=h;cases rx;have hus:=rv.zero;subst hus;obtain ⟨z,its,n,r,hl,e⟩:=I.lstM hH;obtain ⟨u,hu,ru⟩:=r.get hy
 have hy':its.toArray[its.toArray.size - 1]? =some u:=by
   show its.toArray[its.length - 1]? =some u;rw[<-ei0,<-hl];exact hu
 refine call_meets F.slot_list_pop ⟨_,e,rfl⟩ F.entry_list_pop (F.args_list_pop_1 _) (MeetsSeq.list_pop_last l its.toArray n u hy' (by rw[ee7];omega)) ⟨e,?_⟩;refine ⟨y,_,I.lset (its':=its.dropLast) hH e ?_ r.dropLast ?_,ru,q⟩
 · show its.toArray.eraseIdxIfInBounds (its.toArray.size - 1)=its.dropLast.toArray;rw[ee7,et1,cl8]
 · rw[et6];omega
def cq2:V->List V->Hp->VK->Prop:=fun x vs H Q=>∃l xs i k y,x= .ref l/\vs=[.int i]/\H l=some (.lst xs)/\ -(2^63)<=i/\i < 2^63/\seqIndex? i xs.length=some k/\xs[k]? =some y/\Q y (c9 H l (.lst (xs.eraseIdx k)))
theorem da0:MtM X "list.pop" cq2:=by
 intro pins s σ H x vs v us Q I rx rv h;obtain ⟨l,xs,i,k,y,rfl,rfl,hH,h1,h2,hk,hy,q⟩:=h;cases rx;obtain ⟨u,rfl,ru⟩:=rv.one;obtain ⟨t,rfl⟩:=ru;obtain ⟨z,its,n,r,hl,e⟩:=I.lstM hH;obtain ⟨w,hw,rw'⟩:=r.get hy
 refine call_meets F.slot_list_pop ⟨_,e,rfl⟩ F.entry_list_pop (F.args_list_pop_2 _ _)
   (MeetsSeq.list_pop_at l its.toArray n i t k w (fitsIndex_both h1 h2) (by rw[ee7,<-hl];exact hk) (by rw[<-ei0];exact hw) (by rw[ee7];omega)) ⟨e,?_⟩
 refine ⟨y,_,I.lset (its':=its.eraseIdx k) hH e ?_ (r.eraseIdx k) ?_,rw',q⟩
 · show its.toArray.eraseIdxIfInBounds k=(its.eraseIdx k).toArray;rw[et1]
 · have:=br2 xs k;omega
def ea2:R2:=fun x y H Q=>∃l b xs zs,x= .ref l/\y= .ref b/\H l=some (.lst xs)/\H b=some (.lst zs)/\xs.length+zs.length<=sizeLine/\∀p,H p=none->Q (.ref p) (c9 H p (.lst (xs++zs)))
theorem Q7:R7 X (binaryOp .Add) ea2:=by
 intro pins s σ H x y v u Q I rx ry h;obtain ⟨l,b,xs,zs,rfl,rfl,hH,hB,hz,q⟩:=h;cases rx;cases ry;obtain ⟨z,its,n,r,hl,e⟩:=I.lstM hH;obtain ⟨z2,its2,n2,r2,hl2,e2⟩:=I.lstM hB;refine PySem.P.add_list e e2 ?_ (by rw[ee7,ee7];omega)
 have ea:its.toArray++its2.toArray=(its++its2).toArray:=by simp
 rw[ea];exact ⟨.ref _,_,I.lnew (t':=s.toks) (r.append r2) (by rw[ed6];omega),rfl,q _ I.fresh⟩
def ea3:R2:=fun x y H Q=>∃l k xs,x= .ref l/\y= .int k/\H l=some (.lst xs)/\ -(2^63)<=k/\k < 2^63/\xs.length*k.toNat<=sizeLine/\
 ∀p,H p=none->Q (.ref p) (c9 H p (.lst (ef4 k.toNat xs).flatten))
theorem dh7 {α:Type}(xs:List α)(k:Nat):(ef4 k xs).flatten.length=k*xs.length:=by
 induction k with
 |zero=>simp
 |succ k ih=>rw[em8,eh4,ed6,ih,em0,em1]
theorem ay2:R7 X (binaryOp .Mult) ea3:=by
 intro pins s σ H x y v u Q I rx ry h;obtain ⟨l,k,xs,rfl,rfl,hH,h1,h2,hz,q⟩:=h;cases rx;obtain ⟨t,rfl⟩:=ry;obtain ⟨z,its,n,r,hl,e⟩:=I.lstM hH
 have hlen:its.toArray.size*k.toNat<=sizeLine:=by rw[ee7,<-hl];exact hz
 have hcap:¬its.toArray.size*k.toNat > (2^63 - 1)/8:=by
   have:(sizeLine:Nat)<=(2^63 - 1)/8:=by decide
   omega
 have hfit:¬(!Builtin.List.listFitsIndex k)=true:=by
   rw[fitsIndex_both h1 h2];exact ef3
 have hlong:¬Builtin.List.listTooLong (its.toArray.size*k.toNat)=true:=by
   rw[cz9 hlen];exact ef3
 have hnew:List.foldl (fun x1 x2=>x1++x2) #[] (ef4 (if its.toArray.isEmpty=true then 0 else k.toNat) its.toArray)=(ef4 k.toNat its).flatten.toArray:=by
   have f0:∀m:Nat,List.foldl (fun x1 x2=>x1++x2) #[] (ef4 m its.toArray)=(ef4 m its).flatten.toArray:=fun m=>by
     have:=br3 its m [];rw[List.nil_append] at this;exact this
   rw[f0]
   cases its with
   |nil=>simp
   |cons a r'=>rw[if_neg (by simp)]
 refine wpAny_binaryOp_repeat_ref (T:="list") (U:="int") (by decide) ⟨_,e,rfl⟩ (fun s'=>typeIs_int s' k t) noFill_list_mul F.fills_int_mul F.slot_int_rmul repeat_list F.slot_int_index.lookup
   (call_meets F.slot_int_rmul (typeIs_int s k t) F.entry_int_rmul (F.args_int_rmul_2 _ _) (int___rmul___int_list k t l its.toArray n)
     ⟨e,rfl,⟨_,e,rfl⟩,call_meets F.slot_list_mul ⟨_,e,rfl⟩ F.entry_list_mul (F.args_list_mul_2 _ _) (AutoListH.list___mul___list_int_3 l its.toArray n k t hfit hcap hlong) ⟨e,?_⟩⟩)
 rw[hnew];exact ⟨.ref _,_,I.lnew (t':=s.toks) (r.rep k.toNat) (by rw[dh7,ej4];exact hz),rfl,q _ I.fresh⟩
end
end L2
namespace L2
open PySem PySem.Spec PyProof.Rows
section
variable {κ:Type} [DecidableEq κ]
def C3 (kvs:List (κ×V))(k:κ):Option V:=(kvs.find? fun kv=>decide (kv.1=k)).map (·.2)
def S7 (kvs:List (κ×V))(k:κ)(v:V):List (κ×V):=
 if (kvs.any fun kv=>decide (kv.1=k))=true then kvs.map (fun kv=>if kv.1=k then (kv.1,v) else kv) else kvs++[(k,v)]
theorem L5 {p:κ×V}{r:List (κ×V)}{k:κ}(e:p.1=k):C3 (p::r) k=some p.2:=by simp [C3,eq2,e]
theorem K4 {p:κ×V}{r:List (κ×V)}{k:κ}(e:¬p.1=k):C3 (p::r) k=C3 r k:=by simp [C3,eq2,e]
theorem ae4 (k:κ):∀kvs:List (κ×V),(kvs.any fun kv=>decide (kv.1=k))=(C3 kvs k).isSome
 |[]=>rfl
 |p::r=>by
  rw[ev6]
  by_cases e:p.1=k
  · simp only[L5 e,decide_eq_true e,Bool.true_or,Option.isSome_some]
  · rw[K4 e,decide_eq_false e,Bool.false_or];exact ae4 k r
theorem bx2 (k j:κ)(y:V):∀kvs:List (κ×V),C3 (kvs.map fun kv=>if kv.1=k then (kv.1,y) else kv) j=(C3 kvs j).map fun x=>if j=k then y else x
 |[]=>rfl
 |p::r=>by
  have ih:=bx2 k j y r;rw[eh0]
  by_cases h:p.1=k
  · rw[if_pos h]
    by_cases e:p.1=j
    · rw[L5 (p:=(p.1,y)) e,L5 e,eq3,if_pos (e.symm.trans h)]
    · rw[K4 (p:=(p.1,y)) e,K4 e,ih]
  · rw[if_neg h]
    by_cases e:p.1=j
    · rw[L5 (p:=p) e,L5 e,eq3,if_neg (fun z=>h (e.trans z))]
    · rw[K4 (p:=p) e,K4 e,ih]
theorem br4 (k j:κ)(y:V):∀kvs:List (κ×V),C3 kvs k=none->C3 (kvs++[(k,y)]) j=if j=k then some y else C3 kvs j
 |[],_=>by
  by_cases e:k=j
  · rw[if_pos e.symm];exact L5 (p:=(k,y)) e
  · rw[if_neg (fun z=>e z.symm)];exact K4 (p:=(k,y)) e
 |p::r,hn=>by
  rw[List.cons_append]
  have hk:¬p.1=k:=fun z=>by rw[L5 z] at hn;cases hn
  rw[K4 hk] at hn;have ih:=br4 k j y r hn
  by_cases e:p.1=j
  · rw[L5 e,L5 e,if_neg (fun z=>hk (e.trans z))]
  · rw[K4 e,K4 e,ih]
theorem bx3 (kvs:List (κ×V))(k j:κ)(y:V):C3 (S7 kvs k y) j=if j=k then some y else C3 kvs j:=by
 unfold S7
 by_cases a:(kvs.any fun kv=>decide (kv.1=k))=true
 · rw[if_pos a,bx2];rw[ae4] at a
   by_cases e:j=k
   · obtain ⟨x,hx⟩:=es0.mp a;rw[if_pos e,e,hx,eq3,if_pos rfl]
   · rw[if_neg e]
     cases C3 kvs j with
     |none=>rfl
     |some x=>rw[eq3,if_neg e]
 · rw[if_neg a];refine br4 k j y kvs ?_;rw[ae4] at a
   cases q:C3 kvs k with
   |none=>rfl
   |some x=>rw[q] at a;exact (a rfl).elim
theorem ao3 (kvs:List (κ×V))(k:κ)(v:V):(S7 kvs k v).length<=kvs.length+1:=by
 unfold S7
 split
 · rw[ed2];omega
 · rw[ed6,eg3,ex4];omega
theorem as4 {kvs:List (κ×V)}{k:κ}(v:V)(h:C3 kvs k=none):S7 kvs k v=kvs++[(k,v)]:=by
 unfold S7;rw[ae4,h];exact if_neg (by decide)
theorem ae0.isSome_eq {o:Option V}{u:Option Value}(r:ae0 o u):o.isSome=u.isSome:=by
 cases o with
 |none=>cases u with
  |none=>rfl
  |some _=>exact (show False from r).elim
 |some _=>cases u with
  |none=>exact (show False from r).elim
  |some _=>rfl
theorem ae0.getD {o:Option V}{u:Option Value}{d:V}{d':Value}(r:ae0 o u)(rd:o9 d d'):o9 (o.getD d) (u.getD d'):=by
 cases o with
 |none=>cases u with
  |none=>exact rd
  |some _=>exact (show False from r).elim
 |some _=>cases u with
  |none=>exact (show False from r).elim
  |some _=>exact r
theorem KV.val {kvs:List (κ×V)}{vs:List (κ×Value)}(r:KV kvs vs)(k:κ):ae0 (C3 kvs k) (valueAt vs k):=by
 unfold KV at r
 induction r with
 |nil=>exact True.intro
 |@cons p q ps qs h t ih=>
  obtain ⟨h1,h2⟩:=h
  by_cases e:p.1=k
  · have e':q.1=k:=h1.symm.trans e
    have b:valueAt (q::qs) k=some q.2:=by simp [valueAt,eq2,e']
    rw[L5 e,b];exact h2
  · have e':¬q.1=k:=fun z=>e (h1.trans z)
    have b:valueAt (q::qs) k=valueAt qs k:=by simp [valueAt,eq2,e']
    rw[K4 e,b];exact ih
theorem KV.any {kvs:List (κ×V)}{vs:List (κ×Value)}(r:KV kvs vs)(k:κ):(kvs.any fun kv=>decide (kv.1=k))=vs.any fun kv=>decide (kv.1=k):=by
 unfold KV at r
 induction r with
 |nil=>rfl
 |cons h t ih=>rw[ev6,ev6,ih,h.1]
theorem KV.repl {kvs:List (κ×V)}{vs:List (κ×Value)}(r:KV kvs vs)(k:κ){y:V}{u:Value}(ry:o9 y u):
   KV (kvs.map fun kv=>if kv.1=k then (kv.1,y) else kv) (vs.map fun kv=>if kv.1=k then (kv.1,u) else kv):=by
 unfold KV at r ⊢
 induction r with
 |nil=>exact .nil
 |@cons p q ps qs h t ih=>
  rw[eh0,eh0];refine .cons ?_ ih;obtain ⟨h1,h2⟩:=h
  by_cases e:p.1=k
  · rw[if_pos e,if_pos (h1.symm.trans e)];exact ⟨h1,ry⟩
  · rw[if_neg e,if_neg (fun z=>e (h1.trans z))];exact ⟨h1,h2⟩
theorem KV.put {kvs:List (κ×V)}{vs:List (κ×Value)}(r:KV kvs vs)(k:κ){y:V}{u:Value}(ry:o9 y u):KV (S7 kvs k y) (stored vs k u):=by
 unfold S7 stored;rw[r.any k]
 by_cases e:(vs.any fun kv=>decide (kv.1=k))=true
 · rw[if_pos e,if_pos e];exact r.repl k ry
 · rw[if_neg e,if_neg e];exact Paired.snoc r ⟨rfl,ry⟩
theorem KV.length {kvs:List (κ×V)}{vs:List (κ×Value)}(r:KV kvs vs):kvs.length=vs.length:=Paired.length r
end
theorem as5 {P:Program}{w:World}{k:q9}{u:Value}(r:o9 (kV k) u):(C8 P w).is k u=true:=by
 cases k with
 |inl i=>obtain ⟨t,e⟩:=(show ∃t,u=Value.int i t from r);subst e;exact bd0 P w i t
 |inr x=>obtain ⟨t,e⟩:=(show ∃t,u=Value.str x t from r);subst e;exact bd1 P w x t
theorem br5 {P:Program}{w:World}:∀{ks:List q9} {us:List Value},n6 (ks.map kV) us->ItemsAre (C8 P w) ks us
 |[],_,r=>by rw[ep4] at r;cases r;exact .nil
 |k::ks,_,r=>by
  rw[eh0] at r
  cases r with
  |cons h t=>exact .cons (as5 h) (br5 t)
abbrev KT (H:Hp):List (List q9×V)->List (List q9×Addr×Value)->Prop:=Paired fun p q=>p.1=q.1/\H q.2.1=some (.tup (p.1.map kV))/\o9 p.2 q.2.2
theorem KT.val {H:Hp}{kvs:List (List q9×V)}{xs:List (List q9×Addr×Value)}(r:KT H kvs xs)(k:List q9):ae0 (C3 kvs k) ((atKey xs k).map (·.2)):=by
 induction r with
 |nil=>exact True.intro
 |@cons p q ps qs h t ih=>
  obtain ⟨h1,_,h2⟩:=h
  by_cases e:p.1=k
  · have e':q.1=k:=h1.symm.trans e
    have b:atKey (q::qs) k=some q.2:=by simp [atKey,eq2,e']
    rw[L5 e,b];exact h2
  · have e':¬q.1=k:=fun z=>e (h1.trans z)
    have b:atKey (q::qs) k=atKey qs k:=by simp [atKey,eq2,e']
    rw[K4 e,b];exact ih
theorem KT.repl {H:Hp}{kvs:List (List q9×V)}{xs:List (List q9×Addr×Value)}(r:KT H kvs xs)(k:List q9){y:V}{u:Value}(ry:o9 y u):
   KT H (kvs.map fun kv=>if kv.1=k then (kv.1,y) else kv) (xs.map (putAt k u)):=by
 induction r with
 |nil=>exact .nil
 |@cons p q ps qs h t ih=>
  rw[eh0,eh0];refine .cons ?_ ih;obtain ⟨h1,h2,h3⟩:=h;unfold putAt
  by_cases e:p.1=k
  · rw[if_pos e,if_pos (h1.symm.trans e)];exact ⟨h1,h2,ry⟩
  · rw[if_neg e,if_neg (fun z=>e (h1.trans z))];exact ⟨h1,h2,h3⟩
theorem KT.put {H:Hp}{kvs:List (List q9×V)}{xs:List (List q9×Addr×Value)}(r:KT H kvs xs)(k:List q9){b:Addr}{y:V}{u:Value}(hb:H b=some (.tup (k.map kV)))(ry:o9 y u):
   KT H (S7 kvs k y) (storedH xs k b u):=by
 have e:(kvs.any fun kv=>decide (kv.1=k))=(atKey xs k).isSome:=by
   rw[ae4,(r.val k).isSome_eq,ev7]
 unfold S7 storedH;rw[e]
 by_cases q:(atKey xs k).isSome=true
 · rw[if_pos q,if_pos q];exact r.repl k ry
 · rw[if_neg q,if_neg q];exact Paired.snoc r ⟨rfl,hb,ry⟩
theorem KT.keeps {H H':Hp}{kvs:List (List q9×V)}{xs:List (List q9×Addr×Value)}(r:KT H kvs xs)(ht:∀b ys,H b=some (.tup ys)->H' b=some (.tup ys)):KT H' kvs xs:=
 Paired.mapP r fun _ _ z=>⟨z.1,ht _ _ z.2.1,z.2.2⟩
section
variable {P:Program} {w:World} {H:Hp} {h:Heap} {a:Addr}
theorem df2 {u:HO}(ok:K9 P w H h)(e:Rd H a u):y9 P w H h a u:=e.ok ok
theorem as6 {kvs:List (q9×V)}(ok:K9 P w H h)(e:Rd H a (.dK kvs)):kvs.length<=sizeLine/\(a==sysModules)=false/\∃vs,KV kvs vs/\h.DictOf (C8 P w) a vs:=
 show y9 P w H h a (.dK kvs) from df2 ok e
theorem df3 {kvs:List (q9×V)}(ok:K9 P w H h)(e:H a=some (.dK kvs)):kvs.length<=sizeLine/\(a==sysModules)=false/\∃vs,KV kvs vs/\h.DictOf (C8 P w) a vs:=as6 ok (.inl e)
theorem ap8 {ks:List q9}(ok:K9 P w H h)(e:H a=some (.tup (ks.map kV))):(tupleKind (C8 P w)).is h ks a:=by
 obtain ⟨_,its,r,o,h1,h2,n,h3⟩:=(show y9 P w H h a (.tup (ks.map kV)) from ok a _ e);exact ⟨o,its.toArray,n,h1,h2,h3,by simpa using br5 r⟩
theorem as7 {kvs:List (List q9×V)}(ok:K9 P w H h)(e:Rd H a (.dT kvs)):kvs.length<=sizeLine/\(a==sysModules)=false/\
   ∃xs,KT H kvs xs/\h.DictOfH (tupleKind (C8 P w)) a xs:=by
 obtain ⟨z,y,xs,r,o,es,ep,h1,h2,h3,h4,h5⟩:=(show y9 P w H h a (.dT kvs) from df2 ok e);refine ⟨z,y,xs,r,o,es,ep,h1,h2,h3,h4,fun x hx=> ?_,h5⟩
 have all:∀{l:List (List q9×V)} {m:List (List q9×Addr×Value)},KT H l m->∀x∈m,(tupleKind (C8 P w)).is h x.1 x.2.1:=by
   intro l m q
   induction q with
   |nil=>intro x hx;exact nomatch hx
   |@cons p q ps qs hq t ih=>
    intro x hx
    rcases ee8.mp hx with e|hx
    · subst e;exact ap8 ok (by rw[<-hq.1];exact hq.2.1)
    · exact ih x hx
 exact all r x hx
theorem dv3 {kvs:List (List q9×V)}(ok:K9 P w H h)(e:H a=some (.dT kvs)):kvs.length<=sizeLine/\(a==sysModules)=false/\
 ∃xs,KT H kvs xs/\h.DictOfH (tupleKind (C8 P w)) a xs:=as7 ok (.inl e)
end
def X1 (H:Hp)(a:Addr)(y:V)(r:Option V):Prop:=
 (∃kvs k,Rd H a (.dK kvs)/\y=kV k/\r=C3 kvs k)\/∃kvs k b,Rd H a (.dT kvs)/\y= .ref b/\H b=some (.tup (k.map kV))/\r=C3 kvs k
def ao4 (H:Hp)(a:Addr)(y v:V)(H':Hp):Prop:=
 (∃kvs k,H a=some (.dK kvs)/\y=kV k/\kvs.length < sizeLine/\H'=c9 H a (.dK (S7 kvs k v)))\/
 ∃kvs k b,H a=some (.dT kvs)/\y= .ref b/\H b=some (.tup (k.map kV))/\kvs.length < sizeLine/\H'=c9 H a (.dT (S7 kvs k v))
theorem X1.k {H:Hp}{a:Addr}{kvs:List (q9×V)}{k:q9}(e:H a=some (.dK kvs)):X1 H a (kV k) (C3 kvs k):= .inl ⟨kvs,k,.inl e,rfl,rfl⟩
theorem ao4.k {H:Hp}{a:Addr}{kvs:List (q9×V)}{k:q9}{v:V}(e:H a=some (.dK kvs))(hl:kvs.length < sizeLine):ao4 H a (kV k) v (c9 H a (.dK (S7 kvs k v))):= .inl ⟨kvs,k,e,rfl,hl,rfl⟩
section
variable {X:Cx} {pins:List (Addr×Obj)} {σ:St} {H:Hp} {s:Shared} {a:Addr} {y v:V} {u r:Value} {o:Option V} {A:Around} {E:Value->Shared->Prop}
theorem i5.big (I:i5 X pins σ H s):sysModules < s.heap.objs.size:=by
 have h:mainGlobals < s.heap.objs.size:=(I.mod.glob.keeps I.bk).lt;exact Nat.lt_trans (by decide) h
theorem cq3 {Q:Value->Shared->Prop}(hu:A.units+1 < cLine)(I:i5 X pins σ H s)(g:X1 H a y (some v))(ry:o9 y u)(h:∀w' s',i5 X pins σ H s'->o9 v w'->Q w' s'):
   wpAny (model X.prog X.w) A (getItem (.ref a) u) Q E s:=by
 rcases g with ⟨kvs,k,e,ey,l⟩|⟨kvs,k,b,e,ey,eb,l⟩
 · subst ey;obtain ⟨z,hd,vs,rel,dd⟩:=as6 I.hok e;obtain ⟨w',hw,rw'⟩:=ae0.some_of (v:=v) (o:=valueAt vs k) (by rw[l];exact rel.val k);exact wpAny_getItem_of (as5 ry) dd.mapOf hw (h w' _ (I.tok _) rw')
 · subst ey;cases (show u=Value.ref b from ry);obtain ⟨z,hd,xs,rel,dd⟩:=as7 I.hok e;obtain ⟨w',hw,rw'⟩:=ae0.some_of (v:=v) (o:=(atKey xs k).map (·.2)) (by rw[l];exact rel.val k);obtain ⟨p,hp,hp2⟩:=em9.mp hw;refine wpAny_getItem_heap (tupleKind_room_in1 hu) (ap8 I.hok eb) dd hp ?_;rw[hp2];exact h w' _ (I.tok _) rw'
theorem ea4 {Q:Value->Shared->Prop}(hu:A.units+1 < cLine)(I:i5 X pins σ H s)(g:X1 H a y o)(ry:o9 y u)(h:∀s',i5 X pins σ H s'->Q (.bool o.isSome) s'):
   wpAny (model X.prog X.w) A (compareOp .In u (.ref a)) Q E s:=by
 rcases g with ⟨kvs,k,e,ey,l⟩|⟨kvs,k,b,e,ey,eb,l⟩
 · subst ey;obtain ⟨z,hd,vs,rel,dd⟩:=as6 I.hok e;refine wpAny_in_of (as5 ry) hd dd.mapOf ?_;rw[<-(rel.val k).isSome_eq,<-l];exact h _ (I.tok _)
 · subst ey;cases (show u=Value.ref b from ry);obtain ⟨z,hd,xs,rel,dd⟩:=as7 I.hok e;refine wpAny_in_heap (tupleKind_room_in1 hu) (ap8 I.hok eb) hd dd ?_;have q:=(rel.val k).isSome_eq;rw[ev7] at q;rw[<-q,<-l];exact h _ (I.tok _)
theorem dh8 {Q:Value->Shared->Prop}(hu:A.units+1 < cLine)(I:i5 X pins σ H s)(g:X1 H a y o)(ry:o9 y u)(h:∀s',i5 X pins σ H s'->Q (.bool (!o.isSome)) s'):
   wpAny (model X.prog X.w) A (compareOp .NotIn u (.ref a)) Q E s:=by
 rcases g with ⟨kvs,k,e,ey,l⟩|⟨kvs,k,b,e,ey,eb,l⟩
 · subst ey;obtain ⟨z,hd,vs,rel,dd⟩:=as6 I.hok e;refine wpAny_notIn_of (as5 ry) hd dd.mapOf ?_;rw[<-(rel.val k).isSome_eq,<-l];exact h _ (I.tok _)
 · subst ey;cases (show u=Value.ref b from ry);obtain ⟨z,hd,xs,rel,dd⟩:=as7 I.hok e;refine wpAny_notIn_heap (tupleKind_room_in1 hu) (ap8 I.hok eb) hd dd ?_;have q:=(rel.val k).isSome_eq;rw[ev7] at q;rw[<-q,<-l];exact h _ (I.tok _)
theorem bb4 {h':Heap}{t':Nat}{ob:HO}(I:i5 X pins σ H s)(mu:Mut (H a))(hs:Heap.SameBut a s.heap h')(he:∃q,h'.get? a=some q)(new:y9 X.prog X.w (c9 H a ob) h' a ob):
   i5 X pins σ (c9 H a ob) {s with heap:=h',toks:=t'}:=
 I.write (x:=a) (e:=a) mu (.inl rfl) (fun b q hb z=>(hs.2 b hb).trans z) he new
theorem cq4 {P:Program}{w:World}{H':Hp}{h':Heap}{kvs:List (q9×V)}{vs:List (q9×Value)}(z:kvs.length<=sizeLine)(hd:(a==sysModules)=false)(rel:KV kvs vs)(dd:h'.DictOf (C8 P w) a vs):
 y9 P w H' h' a (.dK kvs):=⟨z,hd,vs,rel,dd⟩
theorem cq5 {H':Hp}{Q:Unit->Shared->Prop}(hu:A.units+1 < cLine)(I:i5 X pins σ H s)(g:ao4 H a y v H')(ry:o9 y u)(rv:o9 v r)(h:∀s',i5 X pins σ H' s'->Q () s'):
   wpAny (model X.prog X.w) A (setItem (.ref a) u r) Q E s:=by
 rcases g with ⟨kvs,k,e,ey,l,eH⟩|⟨kvs,k,b,e,ey,eb,l,eH⟩
 · subst ey eH;obtain ⟨z,hd,vs,rel,dd⟩:=df3 I.hok e
   have hz:vs.length<=sizeLine:=by rw[<-rel.length];exact z
   have hl:(S7 kvs k v).length<=sizeLine:=by have:=ao3 kvs k v;omega
   refine wpAny_setItem_pairs (hsz:=hz) (as5 ry) dd fun h' dd' hs=>h _ ?_
   have he:∃q,h'.get? a=some q:=let ⟨q,_,_,hq,_⟩:=dd';⟨q,hq⟩;exact bb4 I (by rw[e];exact True.intro) hs he (cq4 hl hd (rel.put k rv) dd')
 · subst ey eH;cases (show u=Value.ref b from ry);obtain ⟨z,hd,xs,rel,dd⟩:=dv3 I.hok e
   have hz:xs.length<=sizeLine:=by rw[<-Paired.length rel];exact z
   have hl:(S7 kvs k v).length<=sizeLine:=by have:=ao3 kvs k v;omega
   refine wpAny_setItem_heap (hsz:=hz) (tupleKind_room_in1 hu) (ap8 I.hok eb) dd fun h' dd' hs=>h _ ?_
   obtain ⟨q,es,ep,hq,h2,h3,h4,_,h5⟩:=dd';refine bb4 I (by rw[e];exact True.intro) hs ⟨q,hq⟩ ⟨hl,hd,_,(rel.put k eb rv).keeps fun c ys ec=> ?_,q,es,ep,hq,h2,h3,h4,h5⟩;rw[g8 (ck6 ec e (fun z=>nomatch z))];exact ec
end
def dp7 (i:Expr):Prop:=∀ov iv,subscripted i false ov iv=operate [ov,iv] (getItem ov iv)
theorem dh9 {prog:Program}{w:World}{A:Around}{E:Value->Shared->Prop}{s:Shared}{env:Env}{value slice:Expr}{pos:Pos}{T id:String}{Q:Value->Shared->Prop}
   (hl:typeLookup (.type T) "__getitem__"=pure (some (.builtin id))) (hs:dp7 slice)
   (h:wpAny (model prog w) A (eval value env) (fun o s₁=>wpAny (model prog w) A (eval slice env) (fun i s₂=>s₂.TypeIs o T/\wpAny (model prog w) A (getItem o i) Q E s₂) E s₁) E s):
   wpAny (model prog w) A (eval (.Subscript value slice pos) env) Q E s:=by
 refine Subscript_ (wpAny_mono h (fun o s₁ h₁=>wpAny_mono h₁ (fun i s₂ h₂=> ?_) fun _ _ x=>x) fun _ _ x=>x);obtain ⟨hT,h₂⟩:=h₂;unfold subscriptTail;refine wpAny_bind ?_;rw[getitemInPython_of_ne hT.not_modules];refine wpAny_bind (wpAny_specialOf hT hl ?_)
 have fin:wpAny (model prog w) A (subscripted slice false o i) (fun r s₃=>wpAny (model prog w) A (letTemporaryGo value o r >>=fun _=>pure r) Q E s₃) E s₂:=by
   rw[hs o i];exact wpAny_operating (wpAny_mono h₂ (fun r s₃ h₃=>wpAny_bind (wpAny_letTemporaryGo (wpAny_pure h₃))) fun _ _ x=>x)
 first
   |exact wpAny_pure (wpAny_bind fin)
   |exact wpAny_bind (wpAny_pure (wpAny_bind fin))
   |exact wpAny_bind fin
theorem ce9 {X:Cx}{pins:List (Addr×Obj)}{σ:St}{H:Hp}{s:Shared}{a:Addr}{y:V}{o:Option V}(I:i5 X pins σ H s)(g:X1 H a y o):s.TypeIs (.ref a) "dict":=by
 rcases g with ⟨kvs,k,e,_,_⟩|⟨kvs,k,b,e,_,_,_⟩
 · obtain ⟨_,_,vs,_,dd⟩:=as6 I.hok e;exact dd.typeIs
 · obtain ⟨_,_,xs,_,dd⟩:=as7 I.hok e;exact dd.typeIs
def dv4 (td ty:TE):TE:=fun σ H Q=>td σ H fun x H1=>ty σ H1 fun y H2=>∃a v,x= .ref a/\X1 H2 a y (some v)/\Q v H2
def ea5 (ty td:TE):TE:=fun σ H Q=>ty σ H fun y H1=>td σ H1 fun x H2=>∃a o,x= .ref a/\X1 H2 a y o/\Q (.bl o.isSome) H2
def di0 (ty td:TE):TE:=fun σ H Q=>ty σ H fun y H1=>td σ H1 fun x H2=>∃a o,x= .ref a/\X1 H2 a y o/\Q (.bl (!o.isSome)) H2
def dv5 (td ty tv:TE):TS:=fun D σ H=>tv σ H fun v H1=>td σ H1 fun x H2=>ty σ H2 fun y H3=>∃a H4,x= .ref a/\ao4 H3 a y v H4/\D.nx σ H4
section
variable {X:Cx} {o i e value:Expr} {pos pos' tpos:Pos} {td ty tv:TE}
theorem ap9 (hu:X.A.units+1 < cLine)(ho:PE X o td)(hi:PE X i ty)(hs:dp7 i):PE X (.Subscript o i pos) (dv4 td ty):=by
 intro pins s σ H Q I h;refine dh9 PySem.F.slot_dict_getitem.lookup hs (r6 (ho pins s σ H _ I h) fun u s1 ⟨x,H1,I1,rx,q1⟩=>r6 (hi pins s1 σ H1 _ I1 q1) fun iv s2 ⟨y,H2,I2,ry,a,v,ex,g,q2⟩=> ?_);subst ex;obtain rfl:u=Value.ref a:=rx;exact ⟨ce9 I2 g,cq3 hu I2 g ry fun w' s3 I3 rw'=>⟨v,H2,I3,rw',q2⟩⟩
theorem cq6 (hu:X.A.units+1 < cLine)(hi:PE X i ty)(ho:PE X o td):PC X .In i o (ea5 ty td):=by
 intro pins s σ H Q I h
 refine r6 (hi pins s σ H _ I h) fun iv s1 ⟨y,H1,I1,ry,q1⟩=>r6 (ho pins s1 σ H1 _ I1 q1) fun u s2 ⟨x,H2,I2,rx,a,ov,ex,g,q2⟩=> ?_
 subst ex;obtain rfl:u=Value.ref a:=rx
 exact ea4 hu I2 g ry fun s3 I3=>⟨.bl ov.isSome,H2,I3,rfl,q2⟩
theorem ay3 (hu:X.A.units+1 < cLine)(hi:PE X i ty)(ho:PE X o td):PC X .NotIn i o (di0 ty td):=by
 intro pins s σ H Q I h
 refine r6 (hi pins s σ H _ I h) fun iv s1 ⟨y,H1,I1,ry,q1⟩=>r6 (ho pins s1 σ H1 _ I1 q1) fun u s2 ⟨x,H2,I2,rx,a,ov,ex,g,q2⟩=> ?_
 subst ex;obtain rfl:u=Value.ref a:=rx
 exact dh8 hu I2 g ry fun s3 I3=>⟨.bl (!ov.isSome),H2,I3,rfl,q2⟩
theorem aj8 (hu:X.A.units+1 < cLine)(ho:PE X o td)(hi:PE X i ty)(hv:PE X value tv)(hs:swapsWith value (some (.Subscript o i pos')) pos.line X.env=pure false):
   PS X (.Assign [.Subscript o i pos'] value pos) (dv5 td ty tv):=by
 intro pins s σ H D I h;refine wpAny_Assign_Subscript (r6 (hv pins s σ H _ I h) fun r s1 ⟨v,H1,I1,rv,q1⟩=>r6 (ho pins s1 σ H1 _ I1 q1) fun u s2 ⟨x,H2,I2,rx,q2⟩=>r6 (hi pins s2 σ H2 _ I2 q2) fun iv s3 ⟨y,H3,I3,ry,a,H4,ex,g,q3⟩=> ?_) hs;subst ex;obtain rfl:u=Value.ref a:=rx
 exact cq5 hu I3 g ry rv fun s4 I4=>⟨σ,H4,I4,q3⟩
end
theorem da1 {P:Program}{w:World}{H:Hp}(h:Heap)(hb:sysModules < h.objs.size):y9 P w H (h.push {cls:= .type "dict",data:= .dict #[]}) h.objs.size (.dK []):=
 ⟨ef5 _,beq_eq_false_iff_ne.mpr (Ne.symm (eh5 hb)),[],.nil,Heap.DictOf.new h⟩
def dp8:TE:=fun _ H Q=>∀p,H p=none->Q (.ref p) (c9 H p (.dK []))
section
variable {X:Cx} {pos:Pos}
theorem V0:PE X (.Dict [] [] pos) dp8:=fun pins s σ H Q I h=>
 wpAny_Dict_empty ⟨.ref s.heap.objs.size,_,I.laid (a:=s.heap.objs.size) (o:= .dK []) (t':=s.toks) (fun _ _ q=>Heap.get?_push_of_some _ q) (ed5 _) (da1 s.heap I.big),rfl,h _ (I.hok.fresh (ed5 _))⟩
end
structure M2 (X:Cx)(o:Expr)(m:Str)(apos:Pos)(e f:Expr)(cpos:Pos):Prop where
 base:attributeBase o m X.env (eval o X.env)=eval o X.env
 few:((backTo cpos (starEach [e,f] X.env)).all (fun x=> !x.1)&&(backToKw cpos (keywordEach [] X.env)).all (fun x=>x.1.isSome)
   &&decide (([e,f]:List Expr).length+([]:List Keyword).length+(if ([]:List Keyword).isEmpty then 0 else 1) < 30))=true
 line:(apos.endLine==cpos.line)=true
 trees:backTo cpos (starEach [e,f] X.env)=[(false,eval e X.env),(false,eval f X.env)]
def IsD (H:Hp)(a:Addr):Prop:=(∃kvs,Rd H a (.dK kvs))\/∃kvs,Rd H a (.dT kvs)
theorem dp9 {X:Cx}{pins:List (Addr×Obj)}{σ:St}{H:Hp}{s:Shared}{a:Addr}(I:i5 X pins σ H s)(d:IsD H a):
   s.TypeIs (.ref a) "dict"/\(∀b,Value.ref a= .ref b->∃ob,s.heap.get? b=some ob/\ob.dict=none)/\(a==sysModules)=false:=by
 rcases d with ⟨kvs,e⟩|⟨kvs,e⟩
 · obtain ⟨_,hd,vs,_,dd⟩:=as6 I.hok e;refine ⟨dd.typeIs,fun b q=> ?_,hd⟩;cases q;obtain ⟨ob,_,_,h1,h2,_⟩:=dd;exact ⟨ob,h1,h2.2.1⟩
 · obtain ⟨_,hd,xs,_,dd⟩:=as7 I.hok e;refine ⟨dd.typeIs,fun b q=> ?_,hd⟩;cases q;obtain ⟨ob,_,_,h1,h2,_⟩:=dd;exact ⟨ob,h1,h2.2.1⟩
section
variable {X:Cx} {pins:List (Addr×Obj)} {σ:St} {H:Hp} {s:Shared} {a:Addr} {y d:V} {u r:Value} {o:Option V} {A:Around} {E:Value->Shared->Prop}
theorem dq0 {Q:Value->Shared->Prop}(hu:A.units+1 < cLine)(I:i5 X pins σ H s)(g:X1 H a y o)(ry:o9 y u)(rd:o9 d r)(h:∀w' s',i5 X pins σ H s'->o9 (o.getD d) w'->Q w' s'):
   wpAny (model X.prog X.w) A (call (.builtin "dict.get") [.ref a,u,r]) Q E s:=by
 rcases g with ⟨kvs,k,e,ey,l⟩|⟨kvs,k,b,e,ey,eb,l⟩
 · subst ey;obtain ⟨z,hd,vs,rel,dd⟩:=as6 I.hok e;refine call_meetsIn PySem.F.slot_dict_get dd.typeIs PySem.F.entry_dict_get (PySem.F.args_dict_get_3 _ _ _) (meets_dict_get_default (C8 X.prog X.w) a (as5 ry) hd r) ⟨_,dd.mapOf,h _ _ (I.tok _) ?_⟩;rw[l];exact (rel.val k).getD rd
 · subst ey;cases (show u=Value.ref b from ry);obtain ⟨z,hd,xs,rel,dd⟩:=as7 I.hok e;refine call_meetsIn PySem.F.slot_dict_get dd.typeIs PySem.F.entry_dict_get (PySem.F.args_dict_get_3 _ _ _) (meetsH_dict_get_default (tupleKind (C8 X.prog X.w)) a b hd r) ⟨tupleKind_room_in1 hu,k,xs,ap8 I.hok eb,dd,h _ _ (I.tok _) ?_⟩;rw[l];exact (rel.val k).getD rd
end
def dq1 (td ty tx:TE):TE:=fun σ H Q=>td σ H fun x H1=>∃a,x= .ref a/\IsD H1 a/\ty σ H1 fun y H2=>tx σ H2 fun z H3=>∃o,X1 H3 a y o/\Q (o.getD z) H3
section
variable {X:Cx} {o e f:Expr} {apos cpos:Pos} {td ty tx:TE}
theorem da2 (hu:X.A.units+1 < cLine)(ho:PE X o td)(he:PE X e ty)(hf:PE X f tx)(m:M2 X o "get" apos e f cpos):PE X (.Call (.Attribute o "get" apos) [e,f] [] cpos) (dq1 td ty tx):=by
 intro pins s σ H Q I h;refine wpAny_Call_method m.base m.few m.line PySem.F.plainAttrs_dict PySem.F.slot_dict_get PySem.F.type_dict_get (r6 (ho pins s σ H _ I h) fun u s1 ⟨x,H1,I1,rx,a,ex,d,q1⟩=> ?_);subst ex;obtain rfl:u=Value.ref a:=rx;obtain ⟨t1,t2,_⟩:=dp9 I1 d;refine ⟨t1,t2,?_⟩;rw[m.trees]
 refine Calls.callWith_builtin rfl (Calls.evalArgs_plain (Calls.spliced_cons (r6 (he pins s1 σ H1 _ I1 q1) fun iv s2 ⟨y,H2,I2,ry,q2⟩=>
   Calls.spliced_cons (r6 (hf pins s2 σ H2 _ I2 q2) fun fv s3 ⟨z,H3,I3,rz,ov,g,q3⟩=>Calls.spliced_nil ?_))))
 exact dq0 hu I3 g ry rz fun w' s4 I4 rw'=>⟨_,H3,I4,rw',q3⟩
end
end L2
namespace Att
open PySem PySem.W PySem.Calls PyProof.Rows
theorem bi2 {P:Params}{h:Heap}:∀(ns:List Int) (vs:List Value),WellAll P h vs (ns.map WData.int)->IntsAre vs ns:=by
 intro ns
 induction ns with
 |nil=>
  intro vs w;rw[ep4] at w;cases w;exact .nil
 |cons n ns ih=>
  intro vs w;rw[eh0] at w
  cases w with
  |cons a b=>
   cases a;exact .cons _ _ (ih _ b)
theorem cq7 {l:OpenLaw}{n:Nat}(hn:l.most=some n){P:Params}{h:Heap}{args:List WData}{vals:List Value}
   (hpre:l.row.toRowW.claim.pre args=true) (hwl:WellAll P h vals args):
   ∃a vs ns,vals=[Value.ref a]/\args=[WData.list (ns.map WData.int)]/\h.get? a=some {cls:= .type "list",data:= .seq vs.toArray}/\IntsAre vs ns/\ns.length<=n:=by
 have hsh:WShape.hasAll [] args [.list .int]=true:=(pre_splitW hpre).1;have hc:l.pre.holds [] {args:=args}=true:=(pre_splitW hpre).2;obtain ⟨d,r,rfl,h1,h2⟩:=hasAllW_cons hsh;obtain rfl:=hasAllW_nil h2;obtain ⟨xs,rfl,h3⟩:=hasW_list h1;obtain ⟨ns,rfl⟩:=items_int h3
 have hlen:ns.length<=n:=by
   unfold OpenLaw.pre at hc
   have h4:(WTm.not (.lt (.lit (.int (n:Int))) (.len (.arg 0)))).holds [] {args:=[.list (ns.map .int)]}=true:=by
     have h4:=(holds_andW hc).1;rw[hn] at h4;exact h4
   have h5:=condW_of h4 (w_not (w_lt w_lit (w_len_list (w_arg rfl))));rw[ed2] at h5
   refine Nat.le_of_not_lt fun q=> ?_
   have q':(n:Int) < ((ns.length:Nat):Int):=by omega
   first
     |(rw[decide_eq_true q'] at h5;exact absurd h5 (by decide))
     |(simp at h5;omega)
 cases hwl with
 |cons w1 w2=>
  cases w2
  cases w1 with
  |list ho hall=>exact ⟨_,_,ns,rfl,rfl,ho,bi2 ns _ hall,hlen⟩
theorem cq8 (l:OpenLaw)(args:List WData):l.row.toRowW.claim.post args (.bool true) args=true:=
 postW_of (r:=l.row.toRowW) (X:=(true==true))
   (show WShape.has [] (.bool true) .bool=true by first|rfl|decide|simp [WShape.has,WShape.arms,WShape.armsAll])
   (show (WTm.eq .res (.lit (.bool true))).value [] {args:=args,res:=some (.bool true),after:=args}=some (.bool (true==true)) from w_eq_bool (w_res rfl) w_lit) rfl
theorem dt9 {l:OpenLaw}{n:Nat}{q:Program}{loose:List Str}{XP:(Str->Option Value)->Heap->Prop}{YP:World->Heap->Prop}{d:DefRec}
   (hn:l.most=some n) (hdf:d.params.defaults=[])
   (call:∀(w:World) (s₀ s₁:Shared) (mg mb:Str->Option Value) (fa:Addr) (o:Obj) (pm cd doc:Value) (a:Addr) (vs:List Value) (ns:List Int),
     Ground q loose [] XP w s₀ mg mb s₁.heap->YP w s₁.heap->
     s₁.heap.get? fa=some o->o.data= .func (docDef d.name d.params d.body d.scope pm cd doc)->s₁.heap.CodeRec cd d.name->mg d.name=some (.ref fa)->
     s₁.heap.get? a=some {cls:= .type "list",data:= .seq vs.toArray}->IntsAre vs ns->ns.length<=n->s₁.gens= #[]->
     codeAny (model l.prog w) callerA (.call (.ref fa) ⟨[.ref a],[]⟩) (fun r s'=>r= .ok (.ret (.bool true))/\OldK s₁.heap s'.heap/\s'.os=s₁.os/\AllBare s'.gens) s₁):
   WalkO q loose XP YP l.row.toRowW d [] (fun f vs=>PySem.call f vs):=by
 intro w s₀ s₁ mg mb G Y fa o pm cd doc dV kV ho hd hcd hD hmg hg args vals as hpre hlay hrd hwl hlo;obtain rfl:dV= .none:=Dflts.none hD hdf;obtain rfl:kV= .none:=Dflts.noKw hD;obtain ⟨a,vs,ns,rfl,rfl,hobj,hints,hlen⟩:=cq7 hn hpre hwl;refine enter_call (codeAny_mono (call w s₀ s₁ mg mb fa o pm cd doc a vs ns G Y ho (fd_plain hd) hcd hmg hobj hints hlen hg) fun r s' hq=> ?_);obtain ⟨rfl,h2,h3,h4⟩:=hq;exact ⟨.inl ⟨.bool true,.bool true,[],rfl,fun _=>rfl,.bool true,cq8 l _,fun _=>⟨List.Pairwise.nil,fun _ hm=>(nomatch hm)⟩⟩,h2,h3,h4⟩
end Att
namespace L2
open PySem PySem.Spec PyProof.Rows
theorem ay4:∀{vs:List Value} {ns:List Int},IntsAre vs ns->n6 (ns.map V.int) vs
 |_,_,.nil=> .nil
 |_,_,.cons n t h=> .cons ⟨t,rfl⟩ (ay4 h)
def da3 (H:Hp):Prop:=∀b,H b=none\/∃o xs,H b=some (.frz o (.lst xs))
theorem da4 {P:Program}{w:World}{K:PySem.W.Frag}{mg mb:Str->Option Value}{CX:CXT}{k:Nat}{fa a:Addr}{fd:FuncData}{x:Str}{sp:Sp}{s₁:Shared}{vs:List Value}{ns:List Int}
   (KX:K.In s₁.heap) (hns:s₁.heap.Ns mainGlobals mg) (hb:s₁.heap.Ns builtinsNs mb) (hbb:∀x:Str,x≠"__name__"->mb x=bootBuiltins x) (hlim:s₁.heap.NoLimit) (hg:s₁.gens= #[])
   (ha:s₁.heap.get? a=some {cls:= .type "list",data:= .seq vs.toArray}) (hi:IntsAre vs ns) (hl:ns.length<=sizeLine) (hr:l6 k callerA)
   (F:∀base:Heap,K.In base->base.Ns mainGlobals mg->m9 P w K mg base CX k fa fd [x] sp) (hbind:∀(s:Shared) (u:Value),BindsTo s fd ⟨[u],[]⟩ [(x,u)])
   (hsp:∀H:Hp,da3 H->g9 K H a (ns.map V.int)->sp [.ref a] H (fun v _=>v= .bl true) fun _ _ _=>False)
   (hCX:∀H e s',CX [] H s₁ (fun _ _ _=>False) e s'->False):
   codeAny (model P w) callerA (.call (.ref fa) ⟨[.ref a],[]⟩) (fun r s'=>r= .ok (.ret (.bool true))/\OldK s₁.heap s'.heap/\s'.os=s₁.os/\AllBare s'.gens) s₁:=by
 have rv:=ay4 hi;have lenV:=hi.length
 have core:∀H:Hp,da3 H->g9 K H a (ns.map V.int)->K9 P w H s₁.heap->(∀b,H b≠none->b=a)->(H a≠none->K.lookup a=none)->
     codeAny (model P w) callerA (.call (.ref fa) ⟨[.ref a],[]⟩) (fun r s'=>r= .ok (.ret (.bool true))/\OldK s₁.heap s'.heap/\s'.os=s₁.os/\AllBare s'.gens) s₁:=by
   intro H hO hS hok hA hK
   have bc7:∀{b:Addr} {o:Obj},s₁.heap.get? b=some o->H b=none->(ar8 s₁.heap H).get? b=some o:=fun e n=>cz2 e n
   have noA:∀{b:Addr} {o:Obj} {es:Array DictEntry} {ep:Nat},s₁.heap.get? b=some o->o.data= .dict es ep->H b=none:=fun {b o es ep} e d=>by
     cases q:H b with
     |none=>rfl
     |some u=>
      have e':b=a:=hA b (by rw[q];simp);subst e';rw[ha] at e;cases e;have d':Data.seq vs.toArray _=Data.dict es ep:=d;cases d'
   have nsK:∀{b:Addr} {m:Str->Option Value},s₁.heap.Ns b m->(ar8 s₁.heap H).Ns b m:=fun {b m} ⟨o,es,ep,e,d,r⟩=>⟨o,es,ep,bc7 e (noA e d),d,r⟩
   have hKb:K.In (ar8 s₁.heap H):=fun b o e=>bc7 (KX b o e) (by
     cases q:H b with
     |none=>rfl
     |some u=>
      have e':b=a:=hA b (by rw[q];simp);subst e'
      rw[hK (by rw[q];simp)] at e;cases e)
   have hM:Mod K mg (ar8 s₁.heap H):=⟨hKb,nsK hns,⟨mb,nsK hb,hbb⟩,let ⟨mc,h1,h2⟩:=hlim;⟨mc,nsK h1,h2⟩⟩;have e0:cl5 P w K mg (ar8 s₁.heap H) callerA [] s₁ H:=⟨rfl,hM,fun b o e=>dh0 e,er1 (co4 _ _),trivial,fun b hb=>absurd (show b∈([]:List Addr) from hb) (by simp),hok,.of_eq hg⟩
   refine codeAny_mono ((F _ hKb (nsK hns)).run callerA [] s₁ H ⟨[.ref a],[]⟩ [.ref a] [.ref a] _ _ hr e0 (hbind s₁ (.ref a)) (.cons rfl .nil) (hsp H hO hS)) fun r s' h=> ?_
   cases r with
   |error e=>exact (hCX H e s' h).elim
   |ok fl=>
    cases fl with
    |next=>exact False.elim h
    |brk=>exact False.elim h
    |cont=>exact False.elim h
    |ret u=>
     obtain ⟨v,H',os,bare,un,hok',r',q⟩:=h;have q':v= .bl true:=q;subst q';obtain rfl:u=Value.bool true:=r';refine ⟨rfl,OldK.of_keep fun b o e=> ?_,os,bare⟩
     cases q:H b with
     |none=>exact un.keep b o e q (by intro z;exact absurd (show b∈([]:List Addr) from z) (by simp)) (by simp)
     |some u=>
      rcases hO b with z|⟨ob,xs,z⟩
      · rw[q] at z;cases z
      · have z2:=un.frzs b ob _ z;obtain ⟨e1,_⟩:=hok b _ z;obtain ⟨e2,_⟩:=hok' b _ z2;rw[e] at e1;cases e1;exact e2
 cases hk:K.lookup a with
 |some o=>
  have e:=KX a o hk;rw[ha] at e;cases e
  refine core (fun _=>none) (fun _=> .inl rfl) (.inr ⟨_,vs.toArray,_,hk,rfl,rfl,rfl,by rw[ee7,lenV];exact hl,by simpa using rv⟩) (fun b u z=>by have z':(none:Option HO)=some u:=z;cases z') (fun b z=>absurd rfl z) fun z=>absurd rfl z
 |none=>
  refine core (fun b=>if b=a then some (.frz {cls:= .type "list",data:= .seq vs.toArray} (.lst (ns.map V.int))) else none) (fun b=> ?_) (.inl (.inr ⟨{cls:= .type "list",data:= .seq vs.toArray},if_pos rfl⟩)) (fun b u z=> ?_) (fun b z=> ?_) fun _=>hk
  · by_cases hb:b=a
    · exact .inr ⟨_,_,if_pos hb⟩
    · exact .inl (if_neg hb)
  · by_cases hb:b=a
    · have z':=(if_pos hb).symm.trans z;cases z';subst hb;exact ⟨ha,by rw[ed2];exact hl,vs,_,rv,ha⟩
    · have z':=(if_neg hb).symm.trans z;cases z'
  · by_cases hb:b=a
    · exact hb
    · exact absurd (if_neg hb) z
end L2
namespace L2
open PySem PySem.Spec PyProof.Rows
theorem eb7 {l:PySem.W.OpenLaw}{n k:Nat}{q:Program}{loose:List Str}{XP:(Str->Option Value)->Heap->Prop}{YP:World->Heap->Prop}{d:DefRec}{K:Params->PySem.W.Frag}{CX:World->CXT}{sp:World->Sp}{x:Str}
   (hn:l.most=some n) (hn2:n<=sizeLine) (hdf:d.params.defaults=[]) (hr:l6 k callerA)
   (hY:∀(w:World) (h:Heap),YP w h->(K w.params).In h)
   (F:∀(w:World) (mg:Str->Option Value) (fa:Addr) (h:Heap),(K w.params).In h->h.Ns mainGlobals mg->mg d.name=some (.ref fa)->
     ∃fd:FuncData,(∀(s:Shared) (u:Value),BindsTo s fd ⟨[u],[]⟩ [(x,u)])/\
      ∀base:Heap,(K w.params).In base->base.Ns mainGlobals mg->m9 l.prog w (K w.params) mg base (CX w) k fa fd [x] (sp w))
   (hsp:∀(w:World) (H:Hp) (a:Addr) (ns:List Int),ns.length<=n->da3 H->g9 (K w.params) H a (ns.map V.int)->sp w [.ref a] H (fun v _=>v= .bl true) fun _ _ _=>False)
   (hCX:∀(w:World) (H:Hp) (s:Shared) (e:Value) (s':Shared),CX w [] H s (fun _ _ _=>False) e s'->False):
   PySem.W.WalkO q loose XP YP l.row.toRowW d [] (fun f vs=>PySem.call f vs):=by
 refine Att.dt9 hn hdf fun w s₀ s₁ mg mb fa o pm cd doc a vs ns G Y ho hd hcd hmg hobj hints hlen hg=> ?_
 have KX:=hY w _ Y;obtain ⟨fd,hb,hF⟩:=F w mg fa _ KX G.T.g hmg
 exact da4 KX G.T.g G.T.b G.T.builtins G.T.nolimit hg hobj hints (ee6 hlen hn2) hr hF hb (fun H hO hS=>hsp w H a ns hlen hO hS) fun H e s'=>hCX w H s₁ e s'
end L2
namespace L2
open PySem PySem.Spec PyProof.Rows
def aj9 (s:Stmt):Arguments:=match s with
 | .FunctionDef _ a _ _ _ _ _ _ _ _=>a
 |_=>{posonlyargs:=[],args:=[],vararg:=none,kwonlyargs:=[],kw_defaults:=[],kwarg:=none,defaults:=[]}
def aa9 (s:Stmt):List Stmt:=match s with
 | .FunctionDef _ _ b _ _ _ _ _ _ _=>b
 |_=>[]
def i8 (s:Stmt):Scope:=match s with
 | .FunctionDef _ _ _ _ _ _ sc _ _ _=>sc
 |_=>{kind:= .function,names:=[],isGenerator:=false,isCoroutine:=false}
abbrev E2:CXT:=fun _ _ _ _ _ _=>False
abbrev E0:XK:=fun _ _ _=>False
theorem dv6 {X:Cx}:ay1 E2 X E0:=fun _ _ _ _ _ _ _ h=>h.elim
structure B6 (K:PySem.W.Frag)(x qual:Str)(st:Stmt)(f:Addr)(fd:FuncData):Prop where
 ex:∃(oc:Value) (od:Option Addr) (kV doc pm:Value) (an:Option Addr) (cdv ct:Value) (osl:Array (Option Value)),
   fd=PySem.W.fnOf x qual (aj9 st) (aa9 st) (i8 st) .none kV doc pm an cdv ct/\K.lookup f=some ⟨oc,od,.func fd,osl⟩/\PySem.W.codeIn K cdv qual=true
 kp:PySem.W.keepIn K (.ref f)=true
section
variable {P:Program} {w:World} {K:PySem.W.Frag} {mg:Str->Option Value} {base:Heap}
theorem B6.ok {x qual:Str}{st:Stmt}{f:Addr}{fd:FuncData}{N ps:List Str}{k:Nat}{sp:Sp}(F:B6 K x qual st f fd)(S:n5 N ps (i8 st))(len:∀vs H Q E,sp vs H Q E->vs.length=ps.length)
   (hbody:∀(cdv:Value) (A:Around) (outer:List Env) (s:Shared) (H:Hp) (vs:List V) (Q:VK) (E:XK),l6 k (A.deeper (envOfC qual (i8 st) s.heap.objs.size f cdv))->sp vs H Q E->
     ∃t,PSs (t6 E2 P w K mg base N qual (i8 st) f cdv A outer s H E).nox (aa9 st) t/\t {nx:=fun _ H'=>Q .non H',rt:=Q} (ag5 N vs) H):m9 P w K mg base E2 (k+1) f fd ps sp:=by
 obtain ⟨oc,od,kV,doc,pm,an,cdv,ct,osl,rfl,lk,hcd⟩:=F.ex
 refine df1 lk hcd S len fun A outer s H vs Q E hr hsp=> ?_
 obtain ⟨t,h,q⟩:=hbody cdv A outer s H vs Q E hr hsp;exact ⟨t,h.nox,q⟩
theorem B6.binds {x qual:Str}{st:Stmt}{f:Addr}{fd:FuncData}{ps:List Str}(F:B6 K x qual st f fd)
   (h:∀(kV doc pm:Value) (an:Option Addr) (cdv ct:Value) (us:List Value),us.length=ps.length->bindArgs (PySem.W.fnOf x qual (aj9 st) (aa9 st) (i8 st) .none kV doc pm an cdv ct) ⟨us,[]⟩=pure (ps.zip us)):aj4 K fd ps []:=by
 obtain ⟨oc,od,kV,doc,pm,an,cdv,ct,osl,rfl,lk,hcd⟩:=F.ex;exact .all (h kV doc pm an cdv ct)
theorem dq2 {x qual:Str}{st:Stmt}{f:Addr}{oc:Value}{od an:Option Addr}{osl:Array (Option Value)}{kV doc pm cdv ct:Value}(l:K.lookup f=some ⟨oc,od,.func (PySem.W.fnOf x qual (aj9 st) (aa9 st) (i8 st) .none kV doc pm an cdv ct),osl⟩)
 (c:PySem.W.codeIn K cdv qual=true) (k:PySem.W.keepIn K (.ref f)=true):B6 K x qual st f (PySem.W.fnOf x qual (aj9 st) (aa9 st) (i8 st) .none kV doc pm an cdv ct):=⟨⟨oc,od,kV,doc,pm,an,cdv,ct,osl,rfl,l,c⟩,k⟩
end
theorem Q8 {A:Around}{k:Nat}(hr:l6 k A):A.units+1 < cLine:=eg1 (er5 (by decide:1<=64) _) hr.units
theorem m8 {n:Nat}(h:n<=1000):n < sizeLine:=eg1 h (by decide)
section
variable {X:Cx}
theorem pv (i:Nat){x:Str}{pos:Pos}(hN:X.N[i]? =some x:=by rfl)(hv:Vis X.env.scope x:=by first|exact Or.inl rfl|exact Or.inr (Or.inl rfl)|exact Or.inr (Or.inr rfl))(hd:(x==("__debug__":Str))=false:=by decide)
 (hcd:(x==("__classdict__":Str))=false:=by decide):PE X (.Name x pos) (dn6 i):=dn7 hN hv hd hcd
end
theorem y7 {A B:Prop}(h:B):if false=true then A else B:=by
 rw[if_neg ef3];exact h
theorem J8 {A B:Prop}(h:A):if true=true then A else B:=by
 rw[if_pos rfl];exact h
theorem ac4 {c A B:Prop}[Decidable c](h1:c->A)(h2:¬c->B):if c then A else B:=by
 by_cases h:c
 · rw[if_pos h];exact h1 h
 · rw[if_neg h];exact h2 h
theorem ac5 {c A B:Prop}[Decidable c](hc:c)(h:B):if (!decide c)=true then A else B:=by
 rw[decide_eq_true hc];exact y7 h
def c6 (H H':Hp):Prop:=∀b o,H b=some o->H' b=some o
theorem c6.refl (H:Hp):c6 H H:=fun _ _ h=>h
theorem c6.trans {H H1 H2:Hp}(a:c6 H H1)(b:c6 H1 H2):c6 H H2:=fun c o h=>b c o (a c o h)
theorem c6.free {H H':Hp}(e:c6 H H'){l:Addr}(h:H' l=Option.none):H l=Option.none:=by
 cases q:H l with
 |none=>rfl
 |some o=>
  rw[e l o q] at h;cases h
theorem c6.seq {K:PySem.W.Frag}{H H':Hp}{a:Addr}{xs:List V}(e:c6 H H')(h:g9 K H a xs):g9 K H' a xs:=by
 rcases h with (h|⟨o,h⟩)|h
 · exact .inl (.inl (e _ _ h))
 · exact .inl (.inr ⟨o,e _ _ h⟩)
 · exact .inr h
section
variable {κ:Type} [DecidableEq κ]
theorem ak0:∀{l:List κ} {k:κ},l.Nodup->¬k∈l->(l++[k]).Nodup
 |[],k,_,_=>by simp
 |a::r,k,h,hk=>by
  obtain ⟨h1,h2⟩:=ei5.mp h;show (a::(r++[k])).Nodup;refine ei5.mpr ⟨fun m=> ?_,ak0 h2 fun m=>hk (ee8.mpr (Or.inr m))⟩
  rcases ee2.mp m with q|q
  · exact h1 q
  · exact hk (ee8.mpr (Or.inl (ee3.mp q).symm))
end
end L2
namespace L2
open PySem PySem.Spec PyProof.Rows
def Z6 (X:Cx)(N:List Str)(scope:Scope)(cl:List (Str×Addr))(C:Addr)(s0:Shared)(H0:Hp)(ex:List Addr):Cx:=
 {X with N:=N,s₀:=s0,H₀:=H0,env:=compEnvC scope cl C X.env,outer:=X.stack,stack:=X.stack,ex:=ex,fn:=fun _=>false,pn:=[],xe:=fun _ _=>False}
def bi3 (nl:Nat)(fr:List Nat)(σ:St):St:=ef4 nl none++fr.map fun j=>(σ[j]?).join
def I0 (env:Env):List (Str×NameKind)->List (Str×Addr)->List (Str×Addr)
 |[],cs=>cs
 |(n,k)::r,cs=>I0 env r (if (k==NameKind.free)=true then (n,(env.cells.lookup n).getD 0)::cs else cs)
theorem bi4 (env:Env):∀(ns:List (Str×NameKind)) (cs:List (Str×Addr)),(∀p∈ns,p.2= .free->∃c,env.cells.lookup p.1=some c)->(∀y c,cs.lookup y=some c->env.cells.lookup y=some c)->
   ∀y c,(I0 env ns cs).lookup y=some c->env.cells.lookup y=some c
 |[],cs,_,h,y,c,e=>h y c e
 |(n,k)::r,cs,hn,h,y,c,e=>by
  unfold I0 at e;refine bi4 env r _ (fun p hp=>hn p (ee0 _ hp)) ?_ y c e;intro z d ez
  split at ez
  · rename_i hk;rw[ej8] at ez
    cases hz:z==n with
    |true=>
     rw[hz] at ez;have hzn:z=n:=eq_of_beq hz;subst hzn
     have hkf:k= .free:=by simpa using hk
     obtain ⟨c',hc'⟩:=hn (z,k) ed7 hkf;have hc':env.cells.lookup z=some c':=hc';rw[hc'] at ez;rw[hc']
     simpa using ez
    |false=>
     rw[hz] at ez;exact h z d ez
  · exact h z d ez
theorem bd3 (env:Env):∀(ns:List (Str×NameKind)) (cs:List (Str×Addr)) (y:Str),(∃c,cs.lookup y=some c)->∃c,(I0 env ns cs).lookup y=some c
 |[],cs,y,h=>h
 |(n,k)::r,cs,y,⟨c,h⟩=>by
  unfold I0;refine bd3 env r _ y ?_
  split
  · rw[ej8]
    cases hz:y==n with
    |true=>exact ⟨_,rfl⟩
    |false=>exact ⟨c,h⟩
  · exact ⟨c,h⟩
theorem as8 (env:Env):∀(ns:List (Str×NameKind)) (cs:List (Str×Addr)) (p:Str×NameKind),p∈ns->p.2= .free->∃c,(I0 env ns cs).lookup p.1=some c
 |[],cs,p,hp,_=>by simp at hp
 |(n,k)::r,cs,p,hp,hk=>by
  unfold I0
  rcases ee8.mp hp with e|hp
  · subst e;have hk:k= .free:=hk;subst hk;refine bd3 env r _ n ?_;rw[if_pos (by rfl),ej8];exact ⟨(List.lookup n env.cells).getD 0,by simp⟩
  · exact as8 env r _ p hp hk
theorem ay5 (env:Env):∀(ns:List (Str×NameKind)) (cs:List (Str×Addr)),(∀p∈ns,p.2= .free->∃c,env.cells.lookup p.1=some c)->
   (forIn ns cs (fun (x:Str×NameKind) (r:List (Str×Addr))=>if (x.2==NameKind.free)=true then (do let a <-cellOf env x.1;pure (ForInStep.yield ((x.1,a)::r))) else pure (ForInStep.yield r)):Sem (List (Str×Addr)))=pure (I0 env ns cs)
 |[],cs,_=>rfl
 |(n,k)::r,cs,hn=>by
  have ih:=fun cs'=>ay5 env r cs' fun p hp=>hn p (ee0 _ hp)
  rw[List.forIn_cons];unfold I0
  by_cases hk:(k==NameKind.free)=true
  · obtain ⟨c,hc⟩:=hn (n,k) ed7 (by simpa using hk);have hc:env.cells.lookup n=some c:=hc;rw[if_pos hk,if_pos hk]
    have e1:cellOf env n=pure c:=by unfold cellOf;rw[hc]
    rw[e1,hc];exact ih _
  · rw[if_neg hk,if_neg hk];exact ih _
theorem ax2 {scope:Scope}{env:Env}(h:∀p∈scope.names,p.2= .free->∃c,env.cells.lookup p.1=some c):closureFor scope env=pure (I0 env scope.names []):=by
 have e:=ay5 env scope.names [] h;unfold closureFor;show (forIn scope.names [] _ >>=_)=_;have e2:(forIn scope.names ([]:List (Str×Addr)) (fun (x:Str×NameKind) (r:List (Str×Addr))=>match x with|(name,kind)=>(if (kind==NameKind.free)=true then (do let a <-cellOf env name;pure PUnit.unit;pure (ForInStep.yield ((name,a)::r))) else (do pure PUnit.unit;pure (ForInStep.yield r)))):Sem (List (Str×Addr)))=pure (I0 env scope.names []):=e
 first
   |exact (congrArg (fun z=>z >>=fun cs=>pure cs) e2)
   |(rw[show (forIn scope.names ([]:List (Str×Addr)) _:Sem (List (Str×Addr)))=pure (I0 env scope.names []) from e];rfl)
section
variable {X:Cx}
def bx4 (X:Cx)(ifs:List Expr)(t:TT):Prop:=
 ∀(pins:List (Addr×Obj)) (s:Shared) (σ:St) (H:Hp) (Q:Bool->Hp->Prop),i5 X pins σ H s->t σ H Q->
  wpAny (model X.prog X.w) X.A (forIn ifs true fun c r=>if r=true then do let ok <-isTrue c X.env (eval c X.env);pure (ForInStep.yield ok) else pure (ForInStep.yield r)) (TP X pins σ Q) X.xe s
def ea6:TT:=fun _ H Q=>Q true H
theorem be8:bx4 X [] ea6:=fun pins s σ H Q I h=>by
 rw[List.forIn_nil];exact wpAny_pure ⟨H,I,h⟩
theorem ak9 {c:Expr}{t:TT}(h:PT X c t):bx4 X [c] t:=by
 intro pins s σ H Q I hw;rw[List.forIn_cons,if_pos rfl];refine wpAny_bind (wpAny_bind (r6 (h pins s σ H Q I hw) fun b s1 q=>wpAny_pure ?_));show wpAny _ _ (forIn [] b _) _ _ s1;rw[List.forIn_nil];exact wpAny_pure q
theorem bx5 {prog:Program}{w:World}{A:Around}{R:Result->Shared->Prop}{s:Shared}{elt target iter:Expr}{ifs:List Expr}{scope:Scope}{pos:Pos}{it acc:Value}{env:Env}(I:Nat->Shared->Prop)
   (turn:∀n s,I n s->wpAny (model prog w) A (pyNext it) (fun r s1=>match r with
     |none=>R (.ok .next) s1
     |some v=>wpAny (model prog w) A (letOwnedTupleGo target it v) (fun _ s2=>wpAny (model prog w) A (assign target env v) (fun _ s3=>
         wpAny (model prog w) A (forIn ifs true fun c r=>if r=true then do let ok <-isTrue c env (eval c env);pure (ForInStep.yield ok) else pure (ForInStep.yield r)) (fun ok s4=>
           if ok=true then wpAny (model prog w) A (eval elt env) (fun x s5=>
             wpAny (model prog w) A (call (.builtin "list.append") [acc,x]) (fun _ s6=>∃m,m < n/\I m s6) (fun _ _=>False) s5) (fun _ _=>False) s4
           else ∃m,m < n/\I m s4) (fun _ _=>False) s3) (fun _ _=>False) s2) (fun _ _=>False) s1) (fun _ _=>False) s)
   (n:Nat) (h:I n s):
   codeAny (model prog w) A (.compLoop (.ListComp elt [⟨target,iter,ifs,0⟩] scope pos) 0 it acc env) R s:=by
 refine codeAny_loop rfl I (fun n s hI=> ?_) n h;show wpAny _ A ((compTurn (.ListComp elt [⟨target,iter,ifs,0⟩] scope pos) 0 it acc env).onRaise (fun x=>do noteFrame x env;theTreesLotGoes x)) _ _ s;refine wpAny_noted ?_;rw[compTurn_list];refine wpAny_bind (wpAny_standAt (wpAny_bind (wpAny_mono (turn n s hI) (fun r s1 h1=> ?_) fun _ _ f=>f.elim)))
 cases r with
 |none=>exact wpAny_pure h1
 |some v=>
  refine wpAny_bind (wpAny_mono h1 (fun _ s2 h2=> ?_) fun _ _ f=>f.elim);refine wpAny_bind (wpAny_mono h2 (fun _ s3 h3=>wpAny_bind (wpAny_mono h3 (fun ok s4 h4=> ?_) fun _ _ f=>f.elim)) fun _ _ f=>f.elim)
  cases ok with
  |false=>exact wpAny_pure ⟨rfl,h4⟩
  |true=>
   exact wpAny_bind (wpAny_bind (wpAny_mono h4 (fun x s5 h5=>wpAny_bind (wpAny_mono h5 (fun _ s6 h6=>wpAny_pure (wpAny_pure ⟨rfl,h6⟩)) fun _ _ f=>f.elim)) fun _ _ f=>f.elim))
def bv9 (J:It)(g:TG)(tc:TT)(te:TE)(Q:VK)(σ0:St)(H0:Hp):Prop:=∃W:Nat->Nat->List V->St->Hp->Prop,(∃m,W 0 m [] σ0 H0)/\∀i m ys σ' H',W i m ys σ' H'->
 (J.stop i H'/\∀D,H' D=none->Q (.ref D) (c9 H' D (.lst ys)))\/
 (J.go i H'/\∃N:List V->St->Hp->Prop,(∀ys' σ2 H2,N ys' σ2 H2->∃m',m' < m/\W (i+1) m' ys' σ2 H2)/\∀x H2,J.yld i H' x H2->g x σ' H2 fun σ2 H3=>tc σ2 H3 fun b H4=>
   if b=true then te σ2 H4 fun y H5=>ys.length < sizeLine/\N (ys++[y]) σ2 H5 else N ys σ2 H4)
def cl9 (nl:Nat)(fr:List Nat)(wi:TI)(g:TG)(tc:TT)(te:TE):TE:=fun σ H Q=>wi σ H fun J H1=>bv9 J g tc te Q (bi3 nl fr σ) H1
structure ay6 (X:Cx)(N:List Str)(nl:Nat)(fr:List Nat)(scope:Scope):Prop where
 cell:∀y∈scope.names,y.2≠.cell
 kind:scope.kind= .function
 names:∀y∈scope.names,y.2= .local->scope.names.lookup y.1=some .local
 free:∀p∈scope.names,p.2= .free->X.env.kindOf p.1=some .cell\/X.env.kindOf p.1=some .free
 len:N.length=nl+fr.length
 fr:∀(k j:Nat),fr[k]? =some j->∃y,N[nl+k]? =some y/\X.N[j]? =some y/\Vis X.env.scope y/\scope.names.lookup y=some .free
theorem ae5 {env:Env}:∀{names:List (Str×NameKind)} {x:Str} {k:NameKind},(names.map fun (n,k)=>if (k==NameKind.free&&env.scope.kind== .function&&env.kindOf n==some .cell) then (n,NameKind.cell) else (n,k)).lookup x=some k->
   k= .cell\/k= .free->(∀y∈names,y.2≠.cell)->∃p∈names,p.1=x/\p.2= .free
 |[],_,_,h,_,_=>by simp at h
 |(n,kn)::r,x,k,h,hk,hc=>by
  have ih:=@ae5 env r x k;rw[eh0] at h;have hcn:kn≠.cell:=hc (n,kn) ed7
  have hr:∀y∈r,y.2≠.cell:=fun y hy=>hc y (ee0 _ hy)
  cases hx:x==n with
  |true=>
   have hxn:x=n:=eq_of_beq hx
   by_cases hcc:(kn==NameKind.free&&env.scope.kind== .function&&env.kindOf n==some .cell)=true
   · refine ⟨(n,kn),ed7,hxn.symm,?_⟩;simp only[eg7] at hcc
     simpa using hcc.1.1
   · dsimp only at h
     rw[if_neg hcc,ej8,hx] at h;have hkk:kn=k:=Option.some.inj h;subst hkk
     rcases hk with z|z
     · exact absurd z hcn
     · exact ⟨(n,kn),ed7,hxn.symm,z⟩
  |false=>
   by_cases hcc:(kn==NameKind.free&&env.scope.kind== .function&&env.kindOf n==some .cell)=true
   · dsimp only at h
     rw[if_pos hcc,ej8,hx] at h;obtain ⟨p,hp,q⟩:=ih h hk hr;exact ⟨p,ee0 _ hp,q⟩
   · dsimp only at h
     rw[if_neg hcc,ej8,hx] at h;obtain ⟨p,hp,q⟩:=ih h hk hr;exact ⟨p,ee0 _ hp,q⟩
theorem ad8 {env:Env}:∀{names:List (Str×NameKind)} {x:Str},names.lookup x=some .free->
   (names.map fun (n,k)=>if (k==NameKind.free&&env.scope.kind== .function&&env.kindOf n==some .cell) then (n,NameKind.cell) else (n,k)).lookup x=some .cell\/
   (names.map fun (n,k)=>if (k==NameKind.free&&env.scope.kind== .function&&env.kindOf n==some .cell) then (n,NameKind.cell) else (n,k)).lookup x=some .free
 |[],_,h=>by simp at h
 |(n,kn)::r,x,h=>by
  have ih:=@ad8 env r x;rw[eh0]
  dsimp only
  cases hx:x==n with
  |true=>
   rw[ej8,hx] at h;have hkn:kn= .free:=Option.some.inj h
   by_cases hcc:(kn==NameKind.free&&env.scope.kind== .function&&env.kindOf n==some .cell)=true
   · rw[if_pos hcc,ej8,hx];exact .inl rfl
   · rw[if_neg hcc,ej8,hx];exact .inr (congrArg some hkn)
  |false=>
   rw[ej8,hx] at h
   by_cases hcc:(kn==NameKind.free&&env.scope.kind== .function&&env.kindOf n==some .cell)=true
   · rw[if_pos hcc,ej8,hx];exact ih h
   · rw[if_neg hcc,ej8,hx];exact ih h
theorem K9.track {P:Program}{w:World}{H:Hp}{h:Heap}{a:Addr}{o:HO}(x:K9 P w H h)(hn:H a=none)(new:y9 P w (c9 H a o) h a o):K9 P w (c9 H a o) h:=fun b u e=>by
 by_cases hb:b=a
 · subst hb;rw[c7] at e;cases e;exact new
 · rw[g8 hb] at e
   exact (x b u e).stay (fun c v _ q=>q) (fun c q=>by rw[g8 (g7 q hn)];exact q) fun c xs q=>by rw[g8 (g7 q hn)];exact q
theorem br6 {elt tg iter:Expr}{ifs:List Expr}{scope:Scope}{pos:Pos}{wi:TI}{g:TG}{tc:TT}{te:TE}{N:List Str}{nl:Nat}{fr:List Nat}
   (hc:X.calm=true) (hi:PI X tg iter wi) (hg:∀cl C s0 H0 ex,PG (Z6 X N scope cl C s0 H0 ex) tg g) (ht:∀cl C s0 H0 ex,bx4 (Z6 X N scope cl C s0 H0 ex) ifs tc)
   (he:∀cl C s0 H0 ex,PE (Z6 X N scope cl C s0 H0 ex) elt te) (ok:ay6 X N nl fr scope)
   {RR:Value->Addr->Result->Shared->Prop} {pins:List (Addr×Obj)} {s:Shared} {σ:St} {H:Hp} {Q:VK} (I:i5 X pins σ H s) (h:cl9 nl fr wi g tc te σ H Q)
   (hRR:∀D C s' H',i5 X pins σ H' s'->Q (.ref D) H'->ay0 X pins H' C->(∃m,s'.heap.Ns C m)->RR (.ref D) C (.ok .next) s'):
   wpAny (model X.prog X.w) X.A (eval iter X.env) (fun x s1=>wpAny (model X.prog X.w) X.A (pyIter x) (fun it s2=>wpAny (model X.prog X.w) X.A (newList []) (fun acc s3=>
     wpAny (model X.prog X.w) X.A (newFunctionEnv scope X.env.globals (I0 X.env scope.names []) [] X.env.qual none .none (some X.env)) (fun cenv s4=>
       codeAny (model X.prog X.w) X.A (.compStart (.ListComp elt [⟨tg,iter,ifs,0⟩] scope pos) 0 it acc {cenv with scope:=relabel scope X.env}) (RR acc cenv.locals) s4) X.xe s3) X.xe s2) X.xe s1) X.xe s:=by
 refine r6 (hi pins s σ H _ I h) fun v s1 h1=>r6 h1 fun itv s2 h2=> ?_
 obtain ⟨it,fp,tn,J,H2,rfl,I2,T,st2,f2,W,⟨m0,w0⟩,turn⟩:=h2;refine wpAny_newObj_type (wpAny_newFunctionEnv ok.cell (by intro y hy;simp at hy) (fun h1 hns1 hsb1=> ?_) ok.kind)
 dsimp only at hns1 hsb1 ⊢
 generalize hHH:s2.heap.push {cls:= .type "list",dict:=none,data:= .seq ([]:List Value).toArray}=HH at hns1 hsb1 ⊢
 have hC:HH.objs.size=s2.heap.objs.size+1:=by rw[<-hHH,Heap.size_push]
 have hDC:s2.heap.objs.size≠HH.objs.size:=by rw[hC];exact eh5 (Nat.lt_succ_self _)
 have hCle:s2.heap.objs.size<=HH.objs.size:=by rw[hC];exact eq7 _
 have below:∀b,b < s2.heap.objs.size->b≠HH.objs.size/\b≠s2.heap.objs.size:=fun b hb=>⟨by rw[hC];exact eh5 (ev8 hb),eh5 hb⟩
 have old:∀b o,s2.heap.get? b=some o->h1.get? b=some o:=fun b o e=>hsb1.extBut b o (below b (Heap.lt_size e)).1 (Heap.get?_push_of_some _ (hHH▸Heap.get?_push_of_some _ e))
 have hacc:h1.get? s2.heap.objs.size=some {cls:= .type "list",data:= .seq ([]:List Value).toArray}:=hsb1.extBut _ _ hDC (Heap.get?_push_of_some _ (hHH▸Heap.get?_push_size _ rfl))
 have fplt:∀b∈fp,b < s2.heap.objs.size:=fun b hb=>by obtain ⟨o,e,_⟩:=T.obj 0 _ st2 b hb;exact Heap.lt_size e
 generalize hXd:Z6 X N scope (I0 X.env scope.names []) HH.objs.size s2 H2 fp=X'
 have hfreeC:∀p∈scope.names,p.2= .free->∃c,X.env.cells.lookup p.1=some c:=fun p hp hf=>I.ok.has p.1 (ok.free p hp hf)
 have cellsSub:∀y c,(I0 X.env scope.names []).lookup y=some c->X.env.cells.lookup y=some c:=bi4 X.env scope.names [] hfreeC (fun y c e=>by simp at e)
 have cellLt:∀y c,X.env.cells.lookup y=some c->c < s2.heap.objs.size:=fun y c e=>by obtain ⟨v,z⟩:=I2.cell y c e;exact z.lt
 have ok':X'.Ok:=by
   rw[<-hXd]
   refine ⟨I.ok.mod,?_,I.ok.glob,I.ok.blt,hCle,fun x y c e1 e2=>I.ok.inj x y c (cellsSub x c e1) (cellsSub y c e2),fun x hx=> ?_,fun x c hf=>(by cases hf),I.ok.hd,I.ok.frames,.inl rfl,
     fun b hb=>⟨(below b (fplt b hb)).1,fun x c e=>(f2 b hb).2.2.2.2.1 x c (cellsSub x c e)⟩,I2.bs,ee6 I.ok.bsz I2.sz,fun b o e hb=> ?_,fun b hb hfs=> ?_,I2.stack,I2.stkFree⟩
   · show (relabel scope X.env).kind= .function;exact ok.kind
   · have hx':∃p∈scope.names,p.1=x/\p.2= .free:=by
       rcases hx with z|z
       · exact ae5 z (.inl rfl) ok.cell
       · exact ae5 z (.inr rfl) ok.cell
     obtain ⟨p,hp,rfl,hpf⟩:=hx';exact as8 X.env scope.names [] p hp hpf
   · rcases (f2 b hb).2.2.2.1 with z|z
     · exact I.ok.noex b o e z
     · exact absurd (eg2 (Heap.lt_size e) (ee6 I.ok.bsz z)) (en4 _)
   · rcases ee8.mp (I2.stkSub b hfs) with z|z
     · exact (f2 b hb).2.1 z
     · exact (f2 b hb).2.2.1 z
 have hX'd:X'.env.locals=HH.objs.size:=by rw[<-hXd];rfl
 have hX'c:X'.env.cells=I0 X.env scope.names []:=by rw[<-hXd];rfl
 have hX'pn:X'.pn=[]:=by rw[<-hXd];rfl
 have hX'ex:X'.ex=fp:=by rw[<-hXd];rfl
 have hX's0:X'.s₀=s2:=by rw[<-hXd];rfl
 have hX'H0:X'.H₀=H2:=by rw[<-hXd];rfl
 have hX'fs:X'.fs=J7 X.stack:=by rw[<-hXd];rfl
 have hX'xe:X'.xe=fun _ _=>False:=by rw[<-hXd];rfl
 have hX'A:X'.A=X.A:=by rw[<-hXd];rfl
 have hX'P:X'.prog=X.prog:=by rw[<-hXd];rfl
 have hX'w:X'.w=X.w:=by rw[<-hXd];rfl
 have hX'K:X'.K=X.K:=by rw[<-hXd];rfl
 have hX'calm:X'.calm=true:=by rw[<-hXd];exact hc
 have hX'env:X'.env=compEnvC scope (I0 X.env scope.names []) HH.objs.size X.env:=by rw[<-hXd];rfl
 have I':i5 X' [] (bi3 nl fr σ) H2 {s2 with heap:=h1,toks:=s2.toks+([]:List (Str×Value)).length}:=by
   refine ⟨ok',by rw[hX's0],I2.bare,?_,?_,fun x c e=> ?_,?_,fun x c e=> ?_,fun p hp=> ?_,?_,?_⟩
   · rw[hX'fs,hX'ex,hX'H0,hX's0];exact Un.kept old
   · obtain ⟨m,hn,hl⟩:=I2.loc;rw[hX'd];refine ⟨_,hns1,fun i x v e1 e2 e3=> ?_⟩
     have hN':N[i]? =some x:=by rw[<-hXd] at e1;exact e1
     unfold bi3 at e2
     have hi:¬i < nl:=fun hlt=>by
       rw[ef8 (by simpa using hlt),ew7,if_pos hlt] at e2;cases e2
     rw[ef6 (by simpa using hi),en5,ed9] at e2
     cases ej:fr[i - nl]? with
     |none=>rw[ej] at e2;cases e2
     |some j=>
      rw[ej] at e2;obtain ⟨y,y1,y2,y3,y4⟩:=ok.fr (i - nl) j ej
      have hii:nl+(i - nl)=i:=by omega
      rw[hii,hN'] at y1;have hxy:x=y:=Option.some.inj y1;subst hxy;have e2':(σ[j]?).join=some v:=Option.some.inj e2
      have e2'':σ[j]? =some (some v):=by
        cases hσ:σ[j]? with
        |none=>rw[hσ] at e2';cases e2'
        |some z=>rw[hσ] at e2';exact congrArg some e2'
      obtain ⟨u,r,l⟩:=hl j x v y2 e2'' y3;have hkX:=ok.free (x,.free) (PySem.mem_of_lookup y4) rfl;refine ⟨u,r,.inr ⟨?_,?_⟩⟩
      · rw[hX'env]
        rcases ad8 (env:=X.env) y4 with z|z
        · exact .inl z
        · exact .inr z
      · rcases l with ⟨k1,_⟩|⟨_,c,ec,hcell⟩
        · rcases hkX with z|z
          · rw[z] at k1;cases k1
          · rw[z] at k1;cases k1
        · obtain ⟨c',ec'⟩:=as8 X.env scope.names [] (x,.free) (PySem.mem_of_lookup y4) rfl
          have:c'=c:=by
            have q:=cellsSub x c' ec';rw[ec] at q;exact (Option.some.inj q).symm
          subst this;refine ⟨c',by rw[hX'c];exact ec',?_⟩;obtain ⟨oc,ho,hd⟩:=hcell;exact ⟨oc,old _ _ ho,hd⟩
   · rw[hX'c] at e;obtain ⟨v,oc,ho,hd⟩:=I2.cell x c (cellsSub x c e);exact ⟨v,oc,old _ _ ho,hd⟩
   · rw[hX'd];exact I2.hok.fresh hCle
   · rw[hX'c] at e;exact I2.freeC x c (cellsSub x c e)
   · rw[hX'pn] at hp;simp at hp
   · rw[hX'P,hX'w];exact I2.hok.kept old
   · unfold bi3
     have:X'.N=N:=by rw[<-hXd];rfl
     rw[this,ok.len,ed6,en5,ed2]
 have Dn:∀{H':Hp} {pins'} {s':Shared} {σ'},i5 X' pins' σ' H' s'->H' s2.heap.objs.size=none->∀o,s'.heap.get? s2.heap.objs.size=some o->(∀v,o.data≠.cell v)->i5 X' [(s2.heap.objs.size,o)] σ' H' s':=fun {H' pins' s' σ'} I3 hD o ho hnc=>
   I3.pins_of fun p hp=>by
     have e:p=(s2.heap.objs.size,o):=by simpa using hp
     subst e;refine ⟨ho,hD,by rw[hX'd];exact hDC,?_,hnc⟩;rw[hX'fs];intro hb
     rcases ee8.mp (I2.stkSub _ hb) with z|z
     · exact absurd (z▸I2.lt) (en4 _)
     · exact I2.nofs (ed5 _) z
 have loop:∀s₃:Shared,s₃={s2 with heap:=h1,toks:=s2.toks+([]:List (Str×Value)).length}->
     codeAny (model X.prog X.w) X.A (.compLoop (.ListComp elt [⟨tg,iter,ifs,0⟩] scope pos) 0 (.ref it) (.ref s2.heap.objs.size) (compEnvC scope (I0 X.env scope.names []) HH.objs.size X.env)) (RR (.ref s2.heap.objs.size) HH.objs.size) s₃:=by
   rintro s₃ rfl
   refine bx5 (fun n s'=>∃(i:Nat) (σ':St) (H':Hp) (ys:List V) (its:List Value) (k:Nat),i5 X' [(s2.heap.objs.size,{cls:= .type "list",data:= .seq its.toArray k})] σ' H' s'/\n6 ys its/\ys.length<=sizeLine/\tn i s'.heap/\(∀b∈fp,H' b=none)/\W i n ys σ' H')
     ?_ m0 ⟨0,_,H2,[],[],0,Dn I' (I2.hok.fresh (ed5 _)) _ hacc (fun v z=>by cases z),.nil,ef5 _,T.keep 0 _ _ st2 fun b hb o e=>old b o e,fun b hb=>(f2 b hb).1,w0⟩
   rintro n s3 ⟨i,σ3,H3,ys,its,k,I3,rv,hyl,st3,fr3,w3⟩;have pinD:=I3.pin (s2.heap.objs.size,{cls:= .type "list",data:= .seq its.toArray k}) (by rw[hX'pn];exact ef1 _ ed7)
   have stat:∀{o:Obj} {H':Hp},(∀b∈fp,H' b=none)->∀b∈fp,ay0 X' [(s2.heap.objs.size,o)] H' b:=fun {o H'} hn b hb=>by
     refine ⟨hn b hb,by rw[hX'd];exact (below b (fplt b hb)).1,fun z=>ok'.exfs b (by rw[hX'ex];exact hb) z,.inl (by rw[hX'ex];exact hb),fun x c e=>by rw[hX'c] at e;exact (f2 b hb).2.2.2.2.1 x c (cellsSub x c e),fun p hp=> ?_⟩;rw[hX'pn] at hp
     have e:p=(s2.heap.objs.size,o):=by simpa using hp
     subst e
     exact fun z=>(below b (fplt b hb)).2 z.symm
   rcases turn i n ys σ3 H3 w3 with ⟨stop,qn⟩|⟨go,Nx,hNx,step⟩
   · have dn:=T.done X' hX'P hX'w hX'K hX'calm i _ s3 σ3 H3 (fun _ _=>False) I3 (stat fr3) st3 stop;rw[hX'A] at dn
     refine r6 dn fun r s4 ⟨hr,I4⟩=> ?_
     subst hr;have pinE:=I4.pin (s2.heap.objs.size,{cls:= .type "list",data:= .seq its.toArray k}) (by rw[hX'pn];exact ef1 _ ed7)
     have ub:Un (J7 X.stack) fp H2 H3 s2.heap s4.heap:=by
       have:=I4.base;rw[hX'fs,hX'ex,hX'H0,hX's0] at this;exact this
     have hok4:K9 X.prog X.w H3 s4.heap:=by have:=I4.hok;rw[hX'P,hX'w] at this;exact this
     have nD:∀b u,H3 b=some u->b≠s2.heap.objs.size:=fun b u e z=>by rw[z,pinE.2.1] at e;cases e
     have u2:Un (J7 X.stack) fp H2 (c9 H3 s2.heap.objs.size (.lst ys)) s2.heap s4.heap:=
       ⟨ub.keep,ub.slot,fun b o e n' hx=>by rw[g8 (eh5 (Heap.lt_size e))];exact ub.free b o e n' hx,ub.there,
         fun b xs e=>by have:=ub.tups b xs e;rw[g8 (nD b _ this)];exact this,fun b o u e=>by have:=ub.frzs b o u e;rw[g8 (nD b _ this)];exact this,
         fun b ps e=>by obtain ⟨more,z⟩:=ub.tbls b ps e;exact ⟨more,by rw[g8 (nD b _ z)];exact z⟩⟩
     have I5:i5 X pins σ (c9 H3 s2.heap.objs.size (.lst ys)) s4:=by
       refine I2.call' (by rw[I4.os,hX's0]) u2 ?_ I4.bare fun b hb=>⟨(f2 b hb).2.2.2.1,(f2 b hb).2.1,(f2 b hb).2.2.2.2.1,(f2 b hb).2.2.2.2.2⟩
       exact K9.track hok4 pinE.2.1 ⟨hyl,its,k,rv,pinE.1⟩
     refine hRR _ _ s4 _ I5 (qn _ pinE.2.1) (I2.fpOk hCle ?_) ?_
     · rw[g8 (Ne.symm hDC)];have:=I4.free;rw[hX'd] at this;exact this
     · obtain ⟨m,hn,_⟩:=I4.loc;rw[hX'd] at hn;exact ⟨m,hn⟩
   · have im:=T.item X' hX'P hX'w hX'K hX'calm i _ s3 σ3 H3 (fun _ _=>False) I3 (stat fr3) st3 go;rw[hX'A] at im
     refine r6 im fun r s4 ⟨u,hr,h4⟩=> ?_
     subst hr
     refine r6 h4 fun _ s5 ⟨x,H5,I5,r5,y5,st5,fr5⟩=> ?_
     have I5':=I5.pinned (stat fr5) (T.obj _ _ st5);have gg:=hg (I0 X.env scope.names []) HH.objs.size s2 H2 fp;rw[hXd] at gg;have gg:=gg _ s5 σ3 H5 x u _ I5' r5 (step x H5 y5);rw[hX'A,hX'P,hX'w,hX'xe,hX'env] at gg
     refine r6 gg fun _ s6 ⟨σ6,H6,I6,q6⟩=> ?_
     have tt:=ht (I0 X.env scope.names []) HH.objs.size s2 H2 fp;rw[hXd] at tt;have tt:=tt _ s6 σ6 H6 _ I6 q6;rw[hX'A,hX'P,hX'w,hX'xe,hX'env] at tt
     refine r6 tt fun ok7 s7 ⟨H7,I7,q7⟩=> ?_
     have again:∀{s8:Shared} {σ8:St} {H8:Hp} {ys8:List V} {its8:List Value} {k8:Nat},i5 X' ([(s2.heap.objs.size,{cls:= .type "list",data:= .seq its8.toArray k8})]++ak6 fp s5.heap) σ8 H8 s8->n6 ys8 its8->ys8.length<=sizeLine->Nx ys8 σ8 H8->
         ∃m,m < n/\∃(i:Nat) (σ':St) (H':Hp) (ys:List V) (its:List Value) (k:Nat),i5 X' [(s2.heap.objs.size,{cls:= .type "list",data:= .seq its.toArray k})] σ' H' s8/\n6 ys its/\ys.length<=sizeLine/\tn i s8.heap/\(∀b∈fp,H' b=none)/\W i m ys σ' H':=
       fun {s8 σ8 H8 ys8 its8 k8} I8 rv8 hl8 n8=>by
         obtain ⟨m',hm,w8⟩:=hNx ys8 σ8 H8 n8;refine ⟨m',hm,i+1,σ8,H8,ys8,its8,k8,I8.unpinned,rv8,hl8,T.keep _ _ _ st5 fun b hb o e=>(I8.pin (b,o) (ef1 _ (ef1 _ (aj1 hb e)))).1,fun b hb=> ?_,w8⟩;obtain ⟨o,e,d⟩:=T.obj _ _ st5 b hb;exact (I8.pin (b,o) (ef1 _ (ef1 _ (aj1 hb e)))).2.1
     cases ok7 with
     |false=>
      rw[if_neg ef3] at q7 ⊢;exact again I7 rv hyl q7
     |true=>
      rw[if_pos rfl] at q7 ⊢;have ee:=he (I0 X.env scope.names []) HH.objs.size s2 H2 fp;rw[hXd] at ee;have ee:=ee _ s7 σ6 H7 _ I7 q7;rw[hX'A,hX'P,hX'w,hX'xe,hX'env] at ee
      refine r6 ee fun yv s8 ⟨y,H8,I8,r8,hyl8,q8⟩=> ?_
      have pin8:=I8.pin (s2.heap.objs.size,{cls:= .type "list",data:= .seq its.toArray k}) (ef1 _ (eh8 _ ed7));refine wpAny_list_append_plain (items:=its.toArray) ⟨k,pin8.1⟩ (fun h9 hp9 hs9=> ?_) (by rw[ee7,<-rv.length];exact hyl);obtain ⟨k9,e9⟩:=hp9
      have I9:i5 X' (ak6 fp s5.heap) σ6 H8 s8:=I8.pins_of fun p hp=>I8.pin p (ef1 _ (ef1 _ hp))
      have I9':i5 X' (ak6 fp s5.heap) σ6 H8 {s8 with heap:=h9,toks:=s8.toks}:=by
        refine I9.turned (t':=s8.toks) (it:=s2.heap.objs.size) (fun b o hb e=>hs9.extBut b o hb e) pin8.2.1 (by rw[hX'd];exact hDC) (.inr (by rw[hX's0];exact ed5 _)) (fun x c e z=> ?_) fun p hp z=> ?_
        · rw[hX'c] at e;exact absurd (z▸cellLt x c (cellsSub x c e)) (en4 _)
        · rw[hX'pn] at hp;obtain ⟨hb,_⟩:=bq6 (by simpa using hp);exact absurd (z▸fplt _ hb) (en4 _)
      have e9':h9.get? s2.heap.objs.size=some {cls:= .type "list",data:= .seq (its++[yv]).toArray k9}:=by rw[e9];simp
      refine again (ys8:=ys++[y]) (its8:=its++[yv]) (k8:=k9) ?_ (n6.append rv (.cons r8 .nil)) (by rw[ed6];exact hyl8) q8
      refine I9'.pins_of fun p hp=> ?_
      rcases ee2.mp hp with z|z
      · have e:p=(s2.heap.objs.size,{cls:= .type "list",data:= .seq (its++[yv]).toArray k9}):=by simpa using z
        subst e;exact ⟨e9',pin8.2.1,pin8.2.2.1,pin8.2.2.2.1,fun v z=>by cases z⟩
      · exact I9'.pin p (ef1 _ z)
 exact codeAny_compStart_list (loop _ rfl) (T.self X.A 0 _ _ _ (T.keep 0 _ _ st2 fun b hb o e=>old b o e) (loop _ rfl))
end
end L2
namespace L2
open PySem PySem.Spec PyProof.Rows
section
variable {X:Cx}
theorem aq0 {elt tg iter:Expr}{ifs:List Expr}{scope:Scope}{pos:Pos}{wi:TI}{g:TG}{tc:TT}{te:TE}{N:List Str}{nl:Nat}{fr:List Nat}
   (hc:X.calm=true) (ok:ay6 X N nl fr scope) (hi:PI X tg iter wi) (hg:∀cl C s0 H0 ex,PG (Z6 X N scope cl C s0 H0 ex) tg g) (ht:∀cl C s0 H0 ex,bx4 (Z6 X N scope cl C s0 H0 ex) ifs tc)
   (he:∀cl C s0 H0 ex,PE (Z6 X N scope cl C s0 H0 ex) elt te) (hs:∀x,foldedSetIterable iter X.env x=pure x:=by intro _;rfl):
   PE X (.ListComp elt [⟨tg,iter,ifs,0⟩] scope pos) (cl9 nl fr wi g tc te):=by
 intro pins s σ H Q I h
 have hclos:closureFor scope X.env=pure (I0 X.env scope.names []):=ax2 fun p hp hf=>I.ok.has p.1 (ok.free p hp hf)
 rw[eval_ListComp];refine wpAny_comprehension_free (use:=none) rfl hs hclos ok.kind ok.names (br6 (RR:=fun acc C=>compPost (model X.prog X.w) X.A X.xe none (EP X pins σ Q) acc C) hc hi hg ht he ok I h ?_);intro D C s' H' I' q f ⟨m,hn⟩;exact ⟨m,hn,fun h' hs'=>⟨.ref D,H',I'.turned (t':=s'.toks) (fun b o hb e=>hs'.extBut b o hb e) f.1 f.2.1 f.2.2.2.1 f.2.2.2.2.1 f.2.2.2.2.2,rfl,q⟩⟩
theorem bm3 {i:Nat}{y:Str}{py spos:Pos}{elt tg iter:Expr}{ifs:List Expr}{scope:Scope}{pos:Pos}{wi:TI}{g:TG}{tc:TT}{te:TE}{N:List Str}{nl:Nat}{fr:List Nat}
   (hN:X.N.Nodup) (hi':X.N[i]? =some y) (hx:Loc X.env.scope y)
   (hc:X.calm=true) (ok:ay6 X N nl fr scope) (hi:PI X tg iter wi) (hg:∀cl C s0 H0 ex,PG (Z6 X N scope cl C s0 H0 ex) tg g) (ht:∀cl C s0 H0 ex,bx4 (Z6 X N scope cl C s0 H0 ex) ifs tc)
   (he:∀cl C s0 H0 ex,PE (Z6 X N scope cl C s0 H0 ex) elt te) (hsw:swapsWith (.ListComp elt [⟨tg,iter,ifs,0⟩] scope pos) (some (.Name y py)) spos.line X.env=pure true:=by rfl)
   (hs:∀x,foldedSetIterable iter X.env x=pure x:=by intro _;rfl)
   (hf:X.fn y=true\/X.env.scope.names.lookup y=some .local:=by first|exact .inl rfl|exact .inr rfl|assumption):
   PS X (.Assign [.Name y py] (.ListComp elt [⟨tg,iter,ifs,0⟩] scope pos) spos) (ck7 (cl9 nl fr wi g tc te) (bh6 i)):=by
 intro pins s σ H Dn I h
 have hclos:closureFor scope X.env=pure (I0 X.env scope.names []):=ax2 fun p hp hf=>I.ok.has p.1 (ok.free p hp hf)
 rw[exec_Assign_Name_used _ _ _ _ hsw];refine wpAny_bind (wpAny_standAt (wpAny_bind ?_));show wpAny _ X.A (do let _ <-comprehension (.ListComp elt [⟨tg,iter,ifs,0⟩] scope pos) scope X.env _ (newList []) false (eval iter X.env) (some (assign (.Name y py) X.env))) _ _ s
 refine wpAny_bind (wpAny_mono (wpAny_comprehension_free (use:=some (assign (.Name y py) X.env)) (Q:=fun _ s'=>SP X pins Dn .next s') rfl hs hclos ok.kind ok.names
   (br6 (RR:=fun acc C=>compPost (model X.prog X.w) X.A X.xe (some (assign (.Name y py) X.env)) (fun _ s'=>SP X pins Dn .next s') acc C) hc hi hg ht he ok I h ?_)) (fun _ s' hq=>wpAny_pure (wpAny_pure hq)) fun _ _ e=>e)
 intro D C s' H' I' q f ⟨m,hn⟩;show wpAny _ X.A (assign (.Name y py) X.env (.ref D)) _ _ _;refine wpAny_assign_Name (bq3 I' hN hi' hx (v:= .ref D) rfl (fun s2 I2 ⟨a,sb,ha⟩=> ?_) hf)
 have hCa:C≠a:=by
   rcases ha with z|z
   · rw[z];exact f.2.1
   · exact fun e=>f.2.2.2.2.1 _ _ z e.symm
 exact ⟨m,hn.sameBut sb hCa,fun h' hs'=>⟨_,H',I2.turned (t':=s2.toks) (fun b o hb e=>hs'.extBut b o hb e) f.1 f.2.1 f.2.2.2.1 f.2.2.2.2.1 f.2.2.2.2.2,q⟩⟩
theorem ah4 {K:PySem.W.Frag}{a:Addr}{xs:List V}{g:TG}{tc:TT}{te:TE}{σ0:St}{H:Hp}{Q:VK}(Pv:Nat->List V->St->Hp->Prop)(h0:Pv 0 [] σ0 H)(hl:∀i ys σ H,i<=xs.length->Pv i ys σ H->g9 K H a xs)
   (hs:∀i x ys σ H,xs[i]? =some x->Pv i ys σ H->g x σ H fun σ2 H2=>tc σ2 H2 fun b H4=>if b=true then te σ2 H4 fun y H5=>ys.length < sizeLine/\Pv (i+1) (ys++[y]) σ2 H5 else Pv (i+1) ys σ2 H4)
   (hd:∀ys σ H,Pv xs.length ys σ H->∀D,H D=none->Q (.ref D) (c9 H D (.lst ys))):
   bv9 (Itl K a) g tc te Q σ0 H:=by
 refine ⟨fun i m ys σ H=>m=xs.length - i/\i<=xs.length/\Pv i ys σ H,⟨xs.length,by simp,ef5 _,h0⟩,?_⟩;rintro i m ys σ H ⟨rfl,hi,p⟩;have q:=hl i ys σ H hi p
 by_cases hlt:i < xs.length
 · refine .inr ⟨⟨xs,xs[i],q,by simp [hlt]⟩,Pv (i+1),fun ys' σ' H' p'=>⟨xs.length - (i+1),by omega,rfl,hlt,p'⟩,fun x H' y=> ?_⟩;obtain ⟨e,y⟩:=y;subst e;exact hs i x ys σ _ (y xs q) p
 · have e:i=xs.length:=by omega
   subst e;exact .inl ⟨⟨xs,q,ed5 _⟩,hd ys σ H p⟩
theorem bi5 {lo:Int}{n:Nat}{g:TG}{tc:TT}{te:TE}{σ0:St}{H:Hp}{Q:VK}(Pv:Nat->List V->St->Hp->Prop)(h0:Pv 0 [] σ0 H)
   (hs:∀i ys σ H,i < n->Pv i ys σ H->g (.int (lo+i)) σ H fun σ2 H2=>tc σ2 H2 fun b H4=>if b=true then te σ2 H4 fun y H5=>ys.length < sizeLine/\Pv (i+1) (ys++[y]) σ2 H5 else Pv (i+1) ys σ2 H4)
   (hd:∀ys σ H,Pv n ys σ H->∀D,H D=none->Q (.ref D) (c9 H D (.lst ys))):
   bv9 (Itr lo n) g tc te Q σ0 H:=by
 refine ⟨fun i m ys σ H=>m=n - i/\i<=n/\Pv i ys σ H,⟨n,by simp,ef5 _,h0⟩,?_⟩;rintro i m ys σ H ⟨rfl,hi,p⟩
 by_cases hlt:i < n
 · refine .inr ⟨hlt,Pv (i+1),fun ys' σ' H' p'=>⟨n - (i+1),by omega,rfl,hlt,p'⟩,fun x H' y=> ?_⟩;obtain ⟨e,y⟩:=y;subst e y;exact hs i ys σ _ hlt p
 · have e:i=n:=by omega
   subst e;exact .inl ⟨ed5 _,hd ys σ H p⟩
inductive EqD (K:PySem.W.Frag)(H:Hp):Nat->V->V->Bool->Prop where
 |flat {n:Nat} {x y:V}:W7 x=true->W7 y=true->EqD K H n x y (eqV x y)
 |same {n:Nat} (a:Addr):EqD K H n (.ref a) (.ref a) true
 |lists {n:Nat} {a b:Addr} {xs ys:List V} (e:Nat->Bool):a≠b->g9 K H a xs->g9 K H b ys->xs.length=ys.length->(∀(j:Nat) x y,xs[j]? =some x->ys[j]? =some y->EqD K H n x y (e j))->EqD K H (n+1) (.ref a) (.ref b) ((ei1 xs.length).all e)
 |lens {n:Nat} {a b:Addr} {xs ys:List V}:a≠b->g9 K H a xs->g9 K H b ys->xs.length≠ys.length->EqD K H (n+1) (.ref a) (.ref b) false
theorem cq9 {pins:List (Addr×Obj)}{σ:St}{H:Hp}{s:Shared}(I:i5 X pins σ H s){n:Nat}{x y:V}{b:Bool}(d:EqD X.K H n x y b):
   ∀{A:Around} {u v:Value},A.units+n < cLine->o9 x u->o9 y v->SeqAt.EqAt A s u v b:=by
 induction d with
 |flat fx fy=>intro A u v _ rx ry;exact cp9 rx ry fx fy
 |same a=>intro A u v _ rx ry;cases rx;cases ry;exact SeqAt.EqAt.same _
 |@lists n a c xs ys e ne ha hb hl _ ih=>
  intro A u v hu rx ry;cases rx;cases ry;obtain ⟨its,r1,p1,_⟩:=I.list ha;obtain ⟨its2,r2,p2,_⟩:=I.list hb;have l1:=r1.length;have l2:=r2.length;refine SeqAt.EqAt.of_refs ne ?_
  have q:=SeqAt.RcAt.lists (A:=A) (e:=e) p1.isList p2.isList (by rw[ee7,ee7];omega) (by omega) (fun j h1 h2=>by
    have h1':j < its.length:=by simpa using h1
    have h2':j < its2.length:=by simpa using h2
    have e1:xs[j]? =some (xs[j]'(by omega)):=ed4 _;have e2:ys[j]? =some (ys[j]'(by omega)):=ed4 _;obtain ⟨u1,z1,q1⟩:=r1.get e1;obtain ⟨u2,z2,q2⟩:=r2.get e2
    have w1:its.toArray[j]=u1:=by
      rw[ed4 h1'] at z1
      simpa using z1
    have w2:its2.toArray[j]=u2:=by
      rw[ed4 h2'] at z2
      simpa using z2
    rw[w1,w2]
    exact ih j _ _ e1 e2 (by show A.in1.units+n < cLine;have:A.in1.units=A.units+1:=by first|rfl|simp [Around.in1]
                             omega) q1 q2)
  rw[ee7,<-l1] at q;exact q
 |lens ne ha hb hl=>
  intro A u v hu rx ry;cases rx;cases ry;obtain ⟨its,r1,p1,_⟩:=I.list ha;obtain ⟨its2,r2,p2,_⟩:=I.list hb;have l1:=r1.length;have l2:=r2.length;exact SeqAt.EqAt.of_refs ne (SeqAt.RcAt.lists_lengths p1.isList p2.isList (by rw[ee7,ee7];simp;omega) (by omega))
def LEq (K:PySem.W.Frag)(H:Hp)(n:Nat)(xs ys:List V)(r:Bool):Prop:=
 (xs.length≠ys.length/\r=false)\/(∃e:Nat->Bool,xs.length=ys.length/\(∀(j:Nat) x y,xs[j]? =some x->ys[j]? =some y->EqD K H n x y (e j))/\r=(ei1 xs.length).all e)
theorem cr0 {pins:List (Addr×Obj)}{σ:St}{H:Hp}{s:Shared}(I:i5 X pins σ H s){A:Around}{n:Nat}{a b:Addr}{xs ys:List V}{r:Bool}(hu:A.units+n+1 < cLine)(ha:g9 X.K H a xs)(hb:g9 X.K H b ys)(d:LEq X.K H n xs ys r):
   SeqAt.RcAt A s (.ref a) (.ref b) r:=by
 obtain ⟨its,r1,p1,_⟩:=I.list ha;obtain ⟨its2,r2,p2,_⟩:=I.list hb;have l1:=r1.length;have l2:=r2.length
 rcases d with ⟨hl,rfl⟩|⟨e,hl,he,rfl⟩
 · exact SeqAt.RcAt.lists_lengths p1.isList p2.isList (by rw[ee7,ee7];simp;omega) (by omega)
 · have q:=SeqAt.RcAt.lists (A:=A) (e:=e) p1.isList p2.isList (by rw[ee7,ee7];omega) (by omega) (fun j h1 h2=>by
     have h1':j < its.length:=by simpa using h1
     have h2':j < its2.length:=by simpa using h2
     have e1:xs[j]? =some (xs[j]'(by omega)):=ed4 _;have e2:ys[j]? =some (ys[j]'(by omega)):=ed4 _;obtain ⟨u1,z1,q1⟩:=r1.get e1;obtain ⟨u2,z2,q2⟩:=r2.get e2
     have w1:its.toArray[j]=u1:=by
       rw[ed4 h1'] at z1
       simpa using z1
     have w2:its2.toArray[j]=u2:=by
       rw[ed4 h2'] at z2
       simpa using z2
     rw[w1,w2]
     exact cq9 I (he j _ _ e1 e2) (by show A.in1.units+n < cLine;have:A.in1.units=A.units+1:=by first|rfl|simp [Around.in1]
                                      omega) q1 q2)
   rw[ee7,<-l1] at q;exact q
end
end L2
namespace L2
open PySem PySem.Spec PyProof.Rows
section
variable {X:Cx}
theorem da5 {pins:List (Addr×Obj)}{σ:St}{H:Hp}{s:Shared}(I:i5 X pins σ H s){A:Around}{n:Nat}{a b:Addr}{xs ys:List V}{r:Bool}(hu:A.units+n+1 < cLine)(ha:g9 X.K H a xs)(hb:g9 X.K H b ys)(d:LEq X.K H n xs ys r):
   SeqAt.RcNeAt A s (.ref a) (.ref b) (!r):=by
 obtain ⟨its,r1,p1,_⟩:=I.list ha;obtain ⟨its2,r2,p2,_⟩:=I.list hb;have l1:=r1.length;have l2:=r2.length
 rcases d with ⟨hl,rfl⟩|⟨e,hl,he,rfl⟩
 · exact SeqAt.RcNeAt.lists_lengths p1.isList p2.isList (by rw[ee7,ee7];simp;omega) (by omega)
 · have q:=SeqAt.RcNeAt.lists (A:=A) (e:=e) p1.isList p2.isList (by rw[ee7,ee7];omega) (by omega) (fun j h1 h2=>by
     have h1':j < its.length:=by simpa using h1
     have h2':j < its2.length:=by simpa using h2
     have e1:xs[j]? =some (xs[j]'(by omega)):=ed4 _;have e2:ys[j]? =some (ys[j]'(by omega)):=ed4 _;obtain ⟨u1,z1,q1⟩:=r1.get e1;obtain ⟨u2,z2,q2⟩:=r2.get e2
     have w1:its.toArray[j]=u1:=by
       rw[ed4 h1'] at z1
       simpa using z1
     have w2:its2.toArray[j]=u2:=by
       rw[ed4 h2'] at z2
       simpa using z2
     rw[w1,w2]
     exact cq9 I (he j _ _ e1 e2) (by show A.in1.units+n < cLine;have:A.in1.units=A.units+1:=by first|rfl|simp [Around.in1]
                                      omega) q1 q2)
   rw[ee7,<-l1] at q;exact q
def da6 (K:PySem.W.Frag)(n:Nat)(neg:Bool):R2:=fun x y H Q=>∃a b xs ys r,x= .ref a/\y= .ref b/\g9 K H a xs/\g9 K H b ys/\LEq K H n xs ys r/\Q (.bl (if neg then !r else r)) H
theorem bx6 (n:Nat)(hu:X.A.units+n+1 < cLine):R7 X (compareOp .Eq) (da6 X.K n false):=by
 intro pins s σ H x y v u Q I rx ry h;obtain ⟨a,b,xs,ys,r,rfl,rfl,ha,hb,d,q⟩:=h;cases rx;cases ry;exact cr0 I hu ha hb d _ _ _ _ ⟨.bl r,H,I,rfl,q⟩
theorem ac6 (n:Nat)(hu:X.A.units+n+1 < cLine):R7 X (compareOp .NotEq) (da6 X.K n true):=by
 intro pins s σ H x y v u Q I rx ry h;obtain ⟨a,b,xs,ys,r,rfl,rfl,ha,hb,d,q⟩:=h;cases rx;cases ry;exact da5 I hu ha hb d _ _ _ _ ⟨.bl (!r),H,I,rfl,q⟩
theorem ax3 {n:Nat}{e:Nat->Bool}:(ei1 n).all e=true↔∀j,j < n->e j=true:=by
 rw[el8];exact ⟨fun h j hj=>h j (ei2.mpr hj),fun h j hj=>h j (ei2.mp hj)⟩
theorem X2 (K:PySem.W.Frag)(H:Hp)(n:Nat)(ns ms:List Int):LEq K H n (ns.map V.int) (ms.map V.int) (decide (ns=ms)):=by
 by_cases hl:ns.length=ms.length
 · refine .inr ⟨fun j=>decide (ns[j]? =ms[j]?),by simpa using hl,fun j x y e1 e2=> ?_,?_⟩
   · rw[ed9] at e1 e2
     cases h1:ns[j]? with
     |none=>rw[h1] at e1;cases e1
     |some a=>
      cases h2:ms[j]? with
      |none=>rw[h2] at e2;cases e2
      |some b=>
       rw[h1] at e1;rw[h2] at e2;cases e1;cases e2;have q:EqD K H n (V.int a) (V.int b) (eqV (V.int a) (V.int b)):= .flat rfl rfl
       have e:eqV (V.int a) (V.int b)=decide (some a=some b):=by
         show (a==b)=_
         by_cases z:a=b
         · subst z;simp
         · rw[decide_eq_false (fun w=>z (Option.some.inj w))];simpa using z
       rw[e] at q;show EqD K H n _ _ (decide (ns[j]? =ms[j]?));rw[h1,h2];exact q
   · rw[eq1,decide_eq_true_iff,ax3];constructor
     · intro h j _;subst h;simp
     · intro h
       refine ej2 fun j=> ?_
       by_cases hj:j < ns.length
       · exact of_decide_eq_true (h j (by simpa using hj))
       · rw[ef0 (by omega),ef0 (by omega)]
 · refine .inl ⟨by simpa using hl,?_⟩
   exact decide_eq_false fun h=>hl (by rw[h])
theorem cf0:U7 X (.type "range") (fun xs H Q=>∃j,xs=[.int j]/\∀p,H p=none->Q (.ref p) (c9 H p (.rng 0 j))):=by
 intro pins s σ H xs us Q I r h;obtain ⟨j,rfl,q⟩:=h;obtain ⟨u,rfl,⟨t,rfl⟩⟩:=aj3 r;refine call_range_1 ⟨.ref s.heap.objs.size,_,I.laid (fun b o e=>Heap.get?_push_of_some _ e) (ed5 _) ?_,rfl,q _ (I.hok.fresh (ed5 _))⟩;exact ⟨_,_,_,Heap.get?_push_size _ rfl⟩
def P0 (lo:Int)(n:Nat):List Int:=(ei1 n).map fun (i:Nat)=>lo+(i:Int)
theorem cm0 {lo:Int}{n:Nat}{acc:Array Value}(h:ItemsOf (fun i v=>∃t,v=Value.int (lo+(i:Int)*1) t) acc n):n6 ((P0 lo n).map V.int) acc.toList:=by
 obtain ⟨hs,hv⟩:=h
 have key:∀(l:List Value) (k:Nat),(∀(j:Nat) v,l[j]? =some v->∃t,v=Value.int (lo+((k+j:Nat):Int)) t)->n6 (((ei1 l.length).map fun (i:Nat)=>lo+((k+i:Nat):Int)).map V.int) l:=by
   intro l
   induction l with
   |nil=>intro k _;exact .nil
   |cons v r ih=>
    intro k hk
    have e:(((ei1 r.length).map Nat.succ).map fun (i:Nat)=>lo+((k+i:Nat):Int))=(ei1 r.length).map fun (i:Nat)=>lo+((k+1+i:Nat):Int):=by
      rw[ej5]
      refine ej9 fun i _=> ?_
      show lo+((k+(i+1):Nat):Int)=_
      congr 2;omega
    rw[eg3,List.range_succ_eq_map,eh0,eh0,e];refine .cons ?_ ?_
    · obtain ⟨t,e⟩:=hk 0 v rfl;exact ⟨t,e⟩
    · have:=ih (k+1) fun j w e=>by
        obtain ⟨t,z⟩:=hk (j+1) w (by simpa using e);exact ⟨t,by rw[z];congr 2;omega⟩
      exact this
 have:=key acc.toList 0 fun j v e=>by
   obtain ⟨t,z⟩:=hv j v (by simpa using e);exact ⟨t,by rw[z,ex8];simp⟩
 have hl:acc.toList.length=n:=by simpa using hs
 rw[hl] at this
 have e:((ei1 n).map fun (i:Nat)=>lo+((0+i:Nat):Int))=P0 lo n:=by
   unfold P0
   refine ej9 fun i _=> ?_
   simp
 rw[e] at this;exact this
theorem bu1 (hc:X.calm=true):U7 X (.type "list") (fun xs H Q=>∃p lo hi,xs=[.ref p]/\H p=some (.rng lo hi)/\(-(2^62)<=lo/\lo < 2^62/\ -(2^62)<=hi/\hi < 2^62)/\(hi - lo).toNat<=2^20/\
   ∀l,H l=none->Q (.ref l) (c9 H l (.lst ((P0 lo (hi - lo).toNat).map V.int)))):=by
 intro pins s σ H xs us Q I r h;obtain ⟨p,lo,hi,rfl,hp,⟨b1,b2,b3,b4⟩,hz,q⟩:=h;obtain ⟨u,rfl,rx⟩:=aj3 r;cases rx;obtain ⟨t,u,v,ho⟩:=I.hok p _ hp
 refine call_list_range (n:=(hi - lo).toNat) (I.ok.hd hc) (r:=p) ho (small_one b1 b2 b3 b4) (by rw[rangeSize_one];split<;>omega) (ee6 hz (by decide)) fun h' tk acc' c' hk e it=> ?_
 have rv:=cm0 it;refine ⟨.ref s.heap.objs.size,_,I.laid hk (ed5 _) (show y9 X.prog X.w _ h' _ (.lst ((P0 lo (hi - lo).toNat).map V.int)) from ⟨?_,acc'.toList,c',rv,by rw[e]⟩),rfl,q _ (I.hok.fresh (ed5 _))⟩;unfold P0;rw[ed2,ed2,eh2];exact ee6 hz (by rw[sizeLine_eq];decide)
theorem cr1 (hc:X.calm=true):U7 X (.builtin "sum") (fun xs H Q=>∃(p:Addr) (ns:List Int),xs=[.ref p]/\g9 X.K H p (ns.map V.int)/\Q (.int ns.sum) H):=by
 intro pins s σ H xs us Q I r h;obtain ⟨p,ns,rfl,hp,q⟩:=h;obtain ⟨u,rfl,rx⟩:=aj3 r;cases rx;obtain ⟨its,rv,pl,_⟩:=I.list hp;have ia:=as2 rv;obtain ⟨xs,hxs⟩:=ia.allInts.items;have hn:=ia.numsOf
 have hxl:its=(intItems xs).toList:=by rw[<-hxs]
 rw[hxl,nums_intItems] at hn;have hl:=pl.isList;rw[hxs] at hl
 refine sum_intListG (I.ok.hd hc) hl fun h' tk t' hk=>⟨.int ns.sum,H,I.kept hk,?_,q⟩
 rw[preSum_eq,en0 (by simp),hn];exact ⟨_,rfl⟩
end
end L2
namespace L2
open PySem PySem.Spec PyProof.Rows
section
variable {X:Cx}
theorem da7:U7 X (.builtin "isinstance") (fun xs H Q=>∃x n t b,xs=[x,.ty n]/\U8 X.K H x t/\PySem.W.kitOne X.K t (.type n)=some b/\Q (.bl b) H):=by
 intro pins s σ H xs us Q I r h;obtain ⟨x,n,t,b,rfl,ty,e,q⟩:=h;obtain ⟨u,w',rfl,rx,ry⟩:=bv8 r;cases (show w'=Value.type n from ry)
 exact cp7 I rx ty e fun tk=>⟨.bl b,H,I.tok tk,rfl,q⟩
theorem X3 (K:PySem.W.Frag)(n:String):PySem.W.kitOne K (.type n) (.type n)=some true:=by
 unfold PySem.W.kitOne;rw[if_pos (beq_self_eq_true _)]
theorem X4 (K:PySem.W.Frag):PySem.W.kitOne K (.type "int") (.type "bool")=some false:=by
 unfold PySem.W.kitOne PySem.W.kitCls;rw[if_neg (by decide+kernel)];show (if PySem.W.kitMeta "bool"=true then (fastBuiltinMro "int").map (·.contains (Value.type "bool")) else none)=some false;rw[if_pos (by decide+kernel)]
 decide+kernel
theorem bx7 (K:PySem.W.Frag):PySem.W.kitOne K (.type "bool") (.type "int")=some true:=by
 unfold PySem.W.kitOne PySem.W.kitCls;rw[if_neg (by decide+kernel)];show (if PySem.W.kitMeta "int"=true then (fastBuiltinMro "bool").map (·.contains (Value.type "int")) else none)=some true;rw[if_pos (by decide+kernel)]
 decide+kernel
theorem da8:bootBuiltins "int"=some (.type "int"):=by decide+kernel
theorem cr2:bootBuiltins "bool"=some (.type "bool"):=by decide+kernel
theorem at3:bootBuiltins "list"=some (.type "list"):=by decide+kernel
theorem cf1:bootBuiltins "range"=some (.type "range"):=by decide+kernel
theorem bx8:bootBuiltins "isinstance"=some (.builtin "isinstance"):=by decide+kernel
theorem cr3:bootBuiltins "sum"=some (.builtin "sum"):=by decide+kernel
theorem cr4:bootBuiltins "min"=some (.builtin "min"):=by decide+kernel
theorem cr5:bootBuiltins "max"=some (.builtin "max"):=by decide+kernel
end
def j5 (a:Addr)(H H':Hp):Prop:=∀b o,H b=some o->b≠a->H' b=some o
theorem j5.refl (a:Addr)(H:Hp):j5 a H H:=fun _ _ h _=>h
theorem j5.trans {a:Addr}{H H1 H2:Hp}(x:j5 a H H1)(y:j5 a H1 H2):j5 a H H2:=fun b o h n=>y b o (x b o h n) n
theorem c6.but {H H':Hp}(a:Addr)(s:c6 H H'):j5 a H H':=fun b o h _=>s b o h
theorem c6.upd_new {H:Hp}{p:Addr}{o:HO}(h:H p=none):c6 H (c9 H p o):=fun b u e=>by rw[g8 (g7 e h)];exact e
theorem c6.upd_r {H H':Hp}{p:Addr}{o:HO}(s:c6 H H')(h:H p=none):c6 H (L2.c9 H' p o):=fun b u e=>by rw[g8 (g7 e h)];exact s b u e
theorem j5.upd_r {a:Addr}{H H':Hp}{p:Addr}{o:HO}(k:j5 a H H')(h:H p=none):j5 a H (L2.c9 H' p o):=fun b u e n=>by rw[g8 (g7 e h)];exact k b u e n
theorem j5.upd_a {a:Addr}{H H':Hp}{o:HO}(k:j5 a H H'):j5 a H (L2.c9 H' a o):=fun b u e n=>by rw[g8 n];exact k b u e n
end L2
namespace L2
open PySem PySem.Spec PyProof.Rows
def o4 (P:Program)(w:World)(K:PySem.W.Frag)(mg:Str->Option Value)(base:Heap)(x:Str)(k:Nat)(ps:List Str)(sp:Sp):Prop:=
 ∃(f:Addr) (fd:FuncData),mg x=some (.ref f)/\PySem.W.keepIn K (.ref f)=true/\aj4 K fd ps []/\m9 P w K mg base E2 k f fd ps sp
section
variable {X:Cx} {x:Str} {p pos:Pos} {e:Expr} {es:List Expr} {t:TA} {k:Nat} {ps:List Str} {sp:Sp}
theorem i7 (c:o4 X.prog X.w X.K X.mg X.base x k ps sp)(hr:l6 k X.A)(ha:PA X (e::es) t)(hg:Gl X x:=by rfl)(hdb:(x==("__debug__":Str))=false:=by decide)
   (he:starEach (e::es) X.env=(false,eval e X.env)::starEach es X.env:=by rfl) (hpl:(backTo pos (starEach es X.env)).any (·.1)=false:=by rfl):
   PE X (.Call (.Name x p) (e::es) [] pos) (bh9 sp [] E0 t):=by
 obtain ⟨f,fd,h1,h2,h3,h4⟩:=c;exact ch1 h4 hr hg h1 h2 h3 .nil dv6 ha hdb he hpl
theorem bi7 {a b:Expr}{ta:TA}(hm:X.mg "isinstance"=none)(ha:PA X [a,b] ta)(hg:Gl X "isinstance":=by rfl)
   (he:starEach [a,b] X.env=(false,eval a X.env)::starEach [b] X.env:=by rfl) (hpl:(backTo pos (starEach [b] X.env)).any (·.1)=false:=by rfl):
   PE X (.Call (.Name "isinstance" p) [a,b] [] pos) (tCB (fun xs H Q=>∃x n t b,xs=[x,.ty n]/\U8 X.K H x t/\PySem.W.kitOne X.K t (.type n)=some b/\Q (.bl b) H) ta):=
 U9 da7 hg hm bx8 ha (by decide) (by decide) he hpl
theorem da9 (hm:X.mg "int"=none)(hg:Gl X "int":=by rfl):PE X (.Name "int" p) (tC (.ty "int")):=bb2 hg hm da8 rfl
theorem cr6 (hm:X.mg "bool"=none)(hg:Gl X "bool":=by rfl):PE X (.Name "bool" p) (tC (.ty "bool")):=bb2 hg hm cr2 rfl
theorem br7 (hm:X.mg "list"=none)(hg:Gl X "list":=by rfl):PE X (.Name "list" p) (tC (.ty "list")):=bb2 hg hm at3 rfl
theorem o8 (hm:X.mg "len"=none)(ha:PA X [e] t)(hg:Gl X "len":=by rfl)
   (he:starEach [e] X.env=(false,eval e X.env)::starEach [] X.env:=by rfl):PE X (.Call (.Name "len" p) [e] [] pos) (tCB (fun xs H Q=>∃p ys,xs=[.ref p]/\(g9 X.K H p ys\/R6 X.K H p ys)/\Q (.int ys.length) H) t):=
 U9 bx0 hg hm PySem.boot_len ha (by decide) (by decide) he rfl
end
end L2
namespace Mth
structure E6 (p:List Int):Prop where
 nd:p.Nodup
 lo:∀x∈p,0<=x
 hi:∀x∈p,x < p.length
theorem V1 {n:Nat}{x:Int}:x∈L2.P0 0 n↔0<=x/\x < n:=by
 unfold L2.P0;rw[ee5];constructor
 · rintro ⟨i,hi,rfl⟩;have:=ei2.mp hi;omega
 · rintro ⟨h1,h2⟩;exact ⟨x.toNat,ei2.mpr (by omega),by omega⟩
theorem J9 (lo:Int)(n:Nat):(L2.P0 lo n).length=n:=by
 unfold L2.P0;rw[ed2,eh2]
theorem aj5 (n:Nat):(L2.P0 0 n).Nodup:=by
 unfold L2.P0;rw[ef9,em6];exact List.Pairwise.imp (fun {a b} (h:a < b)=>by omega) es9
theorem bd4 {p:List Int}{n:Nat}(h:p.Perm (L2.P0 0 n)):E6 p/\p.length=n:=by
 have hl:p.length=n:=by rw[h.length_eq,J9]
 refine ⟨⟨h.nodup_iff.mpr (aj5 n),fun x hx=>(V1.mp (h.mem_iff.mp hx)).1,fun x hx=> ?_⟩,hl⟩;have:=(V1.mp (h.mem_iff.mp hx)).2;omega
theorem bu2:∀(n:Nat) (p:List Nat),p.Nodup->(∀x∈p,x < n)->p.length=n->p.Perm (ei1 n):=by
 intro n
 induction n with
 |zero=>intro p _ _ hl;rw[List.eq_nil_of_length_eq_zero hl];exact List.Perm.refl _
 |succ n ih=>
  intro p nd hb hl
  by_cases hn:n∈p
  · obtain ⟨s,t,rfl⟩:=List.append_of_mem hn;have pm:(s++n::t).Perm (n::(s++t)):=List.perm_middle;have nd':=pm.nodup_iff.mp nd;obtain ⟨h1,h2⟩:=ei5.mp nd'
    have:=ih (s++t) h2 (fun x hx=>by
      have hx':x < n+1:=hb x (pm.mem_iff.mpr (ee0 _ hx))
      have:x≠n:=fun e=>h1 (e▸hx)
      omega) (by rw[ed6,eg3] at hl;rw[ed6];omega)
    refine pm.trans ?_;rw[eq4];exact (List.Perm.cons n this).trans (ek6 (l₁:=[n]))
  · exfalso
    have hlt:∀x∈p,x < n:=fun x hx=>by
      have h1:=hb x hx
      have:x≠n:=fun e=>hn (e▸hx)
      omega
    match p,nd,hl,hlt with
    |[],_,hl,_=>simp at hl
    |y::q,nd,hl,hlt=>
     obtain ⟨h1,h2⟩:=ei5.mp nd;have hq:=ih q h2 (fun x hx=>hlt x (ee0 _ hx)) (by simpa using hl);have hy:=hlt y ed7;exact h1 (hq.mem_iff.mpr (ei2.mpr hy))
theorem E6.perm {p:List Int}(h:E6 p):p.Perm (L2.P0 0 p.length):=by
 have e:(p.map eq8).map (fun (i:Nat)=>(0:Int)+(i:Int))=p:=by
   rw[ej5]
   conv=>rhs;rw[<-er8 p]
   refine ej9 fun x hx=> ?_
   have:=h.lo x hx;show (0:Int)+((x.toNat:Nat):Int)=x;omega
 have nd:(p.map eq8).Nodup:=by
   rw[ef9,em6];have:=ef9.mp h.nd;refine List.Pairwise.imp_of_mem (fun {a b} ha hb hne z=>hne ?_) this;have h1:=h.lo a ha;have h2:=h.lo b hb;omega
 have:=bu2 p.length (p.map eq8) nd (fun x hx=>by
   obtain ⟨y,hy,rfl⟩:=ee5.mp hx;have h1:=h.lo y hy;have h2:=h.hi y hy
   omega) (by rw[ed2])
 have q:=this.map (fun (i:Nat)=>(0:Int)+(i:Int));rw[e] at q;exact q
def J0 (fs:List Int)(u:Int):Option Int:=fs[u.toNat]?
theorem bx9 (fs:List Int):(L2.P0 0 fs.length).map (J0 fs)=fs.map some:=by
 unfold L2.P0;rw[ej5]
 refine ej2 fun j=> ?_
 rw[ed9,ed9]
 by_cases hj:j < fs.length
 · rw[ek0 hj,ed4 hj];show some (fs[((0:Int)+(j:Int)).toNat]?)=_
   have:((0:Int)+(j:Int)).toNat=j:=by omega
   rw[this,ed4 hj];rfl
 · rw[ef0 (by rw[eh2];omega),ef0 (by omega)];rfl
theorem cr7 {a b:List Int}(h:(a.map some).Perm (b.map some)):a.Perm b:=by
 have:=h.map (fun o:Option Int=>o.getD 0);rw[ej5,ej5] at this
 have e:∀l:List Int,l.map ((fun o:Option Int=>o.getD 0)∘some)=l:=fun l=>by
   conv=>rhs;rw[<-er8 l]
   rfl
 rw[e,e] at this;exact this
theorem bi8 {fs ts qs:List Int}(ht:E6 ts)(hl:fs.length=ts.length)(h:ts.map (J0 fs)=qs.map some):fs.Perm qs:=by
 refine cr7 ?_;have h1:=ht.perm.map (J0 fs);rw[<-hl,bx9,h] at h1;exact h1.symm
end Mth
namespace L2
open PySem PySem.Spec PyProof.Rows
theorem ay6.of {X:Cx}{N:List Str}{nl:Nat}{fr:List Nat}{scope:Scope}(h1:(scope.names.all fun y=>y.2 != .cell)=true:=by rfl)(h2:scope.kind= .function:=by rfl)
   (h3:(scope.names.all fun y=>y.2 != .local||scope.names.lookup y.1==some .local)=true:=by rfl)
   (h4:(scope.names.all fun p=>p.2 != .free||(X.env.kindOf p.1==some .cell||X.env.kindOf p.1==some .free))=true:=by rfl) (h5:N.length=nl+fr.length:=by rfl)
   (h6:((ei1 fr.length).all fun k=>match fr[k]? with
     |some j=>(match N[nl+k]?,X.N[j]? with
      |some y,some z=>y==z&&(X.env.scope.names.lookup y==some .local||X.env.scope.names.lookup y==some .cell||X.env.scope.names.lookup y==some .free)&&scope.names.lookup y==some .free
      |_,_=>false)
     |none=>false)=true:=by rfl):ay6 X N nl fr scope where
 cell:=fun y hy e=>by
   have:=el8.mp h1 y hy;rw[e] at this;exact absurd this (by decide)
 kind:=h2
 names:=fun y hy e=>by
   have:=el8.mp h3 y hy;rw[e] at this
   have q:(scope.names.lookup y.1==some NameKind.local)=true:=by simpa using this
   exact eq_of_beq q
 free:=fun p hp e=>by
   have:=el8.mp h4 p hp;rw[e] at this
   have q:(X.env.kindOf p.1==some NameKind.cell||X.env.kindOf p.1==some NameKind.free)=true:=by simpa using this
   rcases et7 _ _|>.mp q with z|z
   · exact .inl (eq_of_beq z)
   · exact .inr (eq_of_beq z)
 len:=h5
 fr:=fun k j e=>by
   have hk:k < fr.length:=(ed3.mp e).1;have:=el8.mp h6 k (ei2.mpr hk);rw[e] at this
   dsimp only at this
   cases e1:N[nl+k]? with
   |none=>rw[e1] at this;cases this
   |some y=>
    cases e2:X.N[j]? with
    |none=>rw[e1,e2] at this;cases this
    |some z=>
     rw[e1,e2] at this
     dsimp only at this
     rw[eg7,eg7] at this;obtain ⟨⟨q1,q2⟩,q3⟩:=this;have hyz:y=z:=eq_of_beq q1;subst hyz;refine ⟨y,rfl,rfl,?_,eq_of_beq q3⟩;rw[et7,et7] at q2
     rcases q2 with (q|q)|q
     · exact .inl (eq_of_beq q)
     · exact .inr (.inl (eq_of_beq q))
     · exact .inr (.inr (eq_of_beq q))
def K6 (l:List Int):List (q9×V):=l.map fun n=>((Sum.inl n:q9),V.bl true)
theorem al0 {l:List Int}{n:Int}(h:n∈l):C3 (K6 l) (Sum.inl n:q9)=some (.bl true):=by
 induction l with
 |nil=>simp at h
 |cons a r ih=>
  show C3 (((Sum.inl a:q9),V.bl true)::K6 r) _=_
  by_cases e:a=n
  · rw[L5 (by rw[e])]
  · rw[K4 (fun z=>e (Sum.inl.inj z))];exact ih ((ee8.mp h).resolve_left fun z=>e z.symm)
theorem ae6 {l:List Int}{n:Int}(h:n∉l):C3 (K6 l) (Sum.inl n:q9)=none:=by
 induction l with
 |nil=>rfl
 |cons a r ih=>
  show C3 (((Sum.inl a:q9),V.bl true)::K6 r) _=_;rw[K4 (fun z=>h (by rw[Sum.inl.inj z];exact ed7))]
  exact ih fun z=>h (ee0 _ z)
theorem an7 {l:List Int}{n:Int}(h:n∉l):S7 (K6 l) (Sum.inl n:q9) (V.bl true)=K6 (l++[n]):=by
 rw[as4 _ (ae6 h)];unfold K6;rw[ed8];rfl
theorem K7 {ns:List Int}{i:Nat}{y:V}(h:(ns.map V.int)[i]? =some y):∃z,ns[i]? =some z/\y= .int z:=by
 rw[ed9] at h
 cases e:ns[i]? with
 |none=>rw[e] at h;cases h
 |some z=>rw[e] at h;exact ⟨z,rfl,(Option.some.inj h).symm⟩
theorem m7 {α:Type}{l:List α}{i:Nat}{x:α}(h:l[i]? =some x):l.take (i+1)=l.take i++[x]:=by
 rw[List.take_add_one,h];rfl
end L2
namespace Mth
theorem Y3 {p:List Int}{i:Int}(h0:0<=i)(h1:i < p.length):L2.atI (p.map L2.V.int) i=some (.int (p.getD i.toNat 0)):=by
 obtain ⟨j,rfl⟩:=em2 h0;refine L2.S4 ?_
 have hj:j < p.length:=by omega
 rw[ed9,ed4 hj];show some (L2.V.int p[j])=_;rw[ej1];rw[ee4,ed4 hj];rfl
end Mth
namespace L2
open PySem PySem.Spec PyProof.Rows
theorem bm4 (K:PySem.W.Frag)(H:Hp)(n:Nat)(xs:List V):LEq K H n xs [] xs.isEmpty:=by
 cases xs with
 |nil=>exact .inr ⟨fun _=>true,rfl,fun j x y e=>by simp at e,rfl⟩
 |cons x r=>exact .inl ⟨by simp,rfl⟩
section
variable {X:Cx} {p pos apos:Pos} {e o:Expr} {es:List Expr} {t:TA} {to:TE}
theorem B0 (ho:PE X o to)(ha:PA X [e] t)
   (hbase:attributeBase o "append" X.env (eval o X.env)=eval o X.env:=by rfl)
   (hfew:((backTo pos (starEach [e] X.env)).all (fun x=> !x.1)&&(backToKw pos (keywordEach [] X.env)).all (fun x=>x.1.isSome)
     &&decide ([e].length+([]:List Keyword).length+(if ([]:List Keyword).isEmpty then 0 else 1) < 30))=true:=by rfl)
   (hline:(apos.endLine==pos.line)=true:=by rfl) (hs:starEach [e] X.env=(false,eval e X.env)::starEach [] X.env:=by rfl) (hplain:(backTo pos (starEach [] X.env)).any (·.1)=false:=by rfl):
   PE X (.Call (.Attribute o "append" apos) [e] [] pos) (tBM X.K "list" ch4 to t):=
 bi1 PySem.F.plainAttrs_list PySem.F.slot_list_append PySem.F.type_list_append cq1 ho ha hbase hfew hline hs hplain
theorem ab0 (hm:X.mg "list"=none)(ha:PA X [e] t)(hg:Gl X "list":=by rfl)(he:starEach [e] X.env=(false,eval e X.env)::starEach [] X.env:=by rfl):
   PE X (.Call (.Name "list" p) [e] [] pos) (tCB (fun xs H Q=>∃p ys,xs=[.ref p]/\(g9 X.K H p ys\/R6 X.K H p ys)/\∀l,H l=none->Q (.ref l) (c9 H l (.lst ys))) t):=
 an6 bx1 hg hm at3 ha (by decide) (by decide) he rfl
theorem V2 {p2 pos2:Pos}(hc:X.calm=true)(hm:X.mg "list"=none)(hm2:X.mg "range"=none)(ha:PA X [e] t)(hg:Gl X "list":=by rfl)(hg2:Gl X "range":=by rfl)(he:starEach [e] X.env=(false,eval e X.env)::starEach [] X.env:=by rfl)
   (he2:starEach [.Call (.Name "range" p2) [e] [] pos2] X.env=(false,eval (.Call (.Name "range" p2) [e] [] pos2) X.env)::starEach [] X.env:=by rfl):
   PE X (.Call (.Name "list" p) [.Call (.Name "range" p2) [e] [] pos2] [] pos) (tCB (fun xs H Q=>∃p lo hi,xs=[.ref p]/\H p=some (.rng lo hi)/\(-(2^62)<=lo/\lo < 2^62/\ -(2^62)<=hi/\hi < 2^62)/\(hi - lo).toNat<=2^20/\
   ∀l,H l=none->Q (.ref l) (c9 H l (.lst ((P0 lo (hi - lo).toNat).map V.int)))) (cl4 (tCB (fun xs H Q=>∃j,xs=[.int j]/\∀p,H p=none->Q (.ref p) (c9 H p (.rng 0 j))) t) cl3)):=
 an6 (bu1 hc) hg hm at3 (e7 (an6 cf0 hg2 hm2 cf1 ha (by decide) (by decide) he rfl) j8 he2) (by decide) (by decide) he2 rfl
theorem dq3 (hc:X.calm=true)(hm:X.mg "sum"=none)(ha:PA X [e] t)(hg:Gl X "sum":=by rfl)(he:starEach [e] X.env=(false,eval e X.env)::starEach [] X.env:=by rfl):
   PE X (.Call (.Name "sum" p) [e] [] pos) (tCB (fun xs H Q=>∃(p:Addr) (ns:List Int),xs=[.ref p]/\g9 X.K H p (ns.map V.int)/\Q (.int ns.sum) H) t):=
 U9 (cr1 hc) hg hm cr3 ha (by decide) (by decide) he rfl
theorem ch6 {a b:Expr}(hc:X.calm=true)(hm:X.mg "min"=none)(ha:PA X [a,b] t)(hg:Gl X "min":=by rfl)(he:starEach [a,b] X.env=(false,eval a X.env)::starEach [b] X.env:=by rfl)(hpl:(backTo pos (starEach [b] X.env)).any (·.1)=false:=by rfl):
   PE X (.Call (.Name "min" p) [a,b] [] pos) (tCB (fun xs H Q=>∃i j,xs=[.int i,.int j]/\Q (.int (if j < i then j else i)) H) t):=
 U9 (cp5 hc) hg hm cr4 ha (by decide) (by decide) he hpl
theorem bb5 {a b:Expr}(hc:X.calm=true)(hm:X.mg "max"=none)(ha:PA X [a,b] t)(hg:Gl X "max":=by rfl)(he:starEach [a,b] X.env=(false,eval a X.env)::starEach [b] X.env:=by rfl)(hpl:(backTo pos (starEach [b] X.env)).any (·.1)=false:=by rfl):
   PE X (.Call (.Name "max" p) [a,b] [] pos) (tCB (fun xs H Q=>∃i j,xs=[.int i,.int j]/\Q (.int (if j > i then j else i)) H) t):=
 U9 (cp4 hc) hg hm cr5 ha (by decide) (by decide) he hpl
end
end L2
namespace Mth
theorem bi9 {α:Type}:∀{l:List α} {k:Nat} {y:α},l[k]? =some y->(y::l.eraseIdx k).Perm l
 |[],k,y,h=>by simp at h
 |a::r,0,y,h=>by
  simp at h;subst h;exact List.Perm.refl _
 |a::r,k+1,y,h=>by
  have h':r[k]? =some y:=by simpa using h
  have ih:=bi9 h';show (y::a::r.eraseIdx k).Perm (a::r);exact (List.Perm.swap a y _).trans (ih.cons a)
end Mth
namespace L2
open PySem PySem.Spec PyProof.Rows
def dv7 (K:PySem.W.Frag)(ta:TA):TE:=tCB (fun xs H Q=>∃p ys,xs=[.ref p]/\(g9 K H p ys\/R6 K H p ys)/\Q (.int ys.length) H) ta
section
variable {X:Cx} {p pos:Pos} {e:Expr} {t:TA}
theorem be9 (K:PySem.W.Frag)(hm:X.mg "len"=none)(ha:PA X [e] t)(hK:X.K=K:=by rfl)(hg:Gl X "len":=by rfl)
   (he:starEach [e] X.env=(false,eval e X.env)::starEach [] X.env:=by rfl):PE X (.Call (.Name "len" p) [e] [] pos) (dv7 K t):=by
 subst hK;exact o8 hm ha hg he
end
theorem bf0 (n:Nat):(ef4 n [V.int 0]).flatten=(ef4 n (0:Int)).map V.int:=by
 induction n with
 |zero=>rfl
 |succ n ih=>rw[em8,eh4,ih,em8,eh0];rfl
def bj0:V->Int
 | .int i=>i
 |_=>0
theorem cr8 {ys:List V}{xs:List Int}(h:ys.Perm (xs.map V.int)):∃ps:List Int,ys=ps.map V.int/\ps.Perm xs:=by
 refine ⟨ys.map bj0,?_,?_⟩
 · rw[ej5]
   conv=>lhs;rw[<-er8 ys]
   refine ej9 fun y hy=> ?_
   obtain ⟨i,_,rfl⟩:=ee5.mp (h.mem_iff.mp hy);rfl
 · have:=h.map bj0;rw[ej5] at this
   have e:xs.map (bj0∘V.int)=xs:=by
     conv=>rhs;rw[<-er8 xs]
     rfl
   rw[e] at this;exact this
end L2
namespace Mth
theorem ah5 {fs:List Int}{u v x:Int}(hu:0<=u)(hv:0<=v)(h:u≠v):J0 (fs.set v.toNat x) u=J0 fs u:=by
 unfold J0;rw[er3 (by omega)]
theorem al1 {fs:List Int}{v x:Int}(h:v.toNat < fs.length):J0 (fs.set v.toNat x) v=some x:=by
 unfold J0;rw[eq0 h]
theorem O7 {ts:List Int}{i:Nat}(h:i < ts.length):ts.getD i 0=ts[i]:=by
 rw[ee4,ed4 h];rfl
theorem V3 {ts:List Int}(nd:ts.Nodup){i j:Nat}(hi:i < ts.length)(hj:j < ts.length)(h:i≠j):ts.getD i 0≠ts.getD j 0:=by
 rw[O7 hi,O7 hj]
 rcases Nat.lt_or_gt_of_ne h with z|z
 · exact eg8.mp (ef9.mp nd) i j hi hj z
 · exact fun e=>eg8.mp (ef9.mp nd) j i hj hi z e.symm
theorem db0 {ts fs qs:List Int}{k L:Nat}(hL:1<=L)(hb:k+L<=ts.length)(h1:(ts.take k).map (J0 fs)=qs.map some)(hq:qs.Perm (ts.take k))
   (h2:∀j,j < L->J0 fs (ts.getD (k+j) 0)=some (ts.getD (k+(j+1)%L) 0)):∃qs':List Int,qs'.Perm (ts.take (k+L))/\(ts.take (k+L)).map (J0 fs)=qs'.map some:=by
 have hT:((ts.drop k).take L).length=L:=by rw[ee9,eg5];omega
 have hTj:∀j,j < L->((ts.drop k).take L)[j]? =some (ts.getD (k+j) 0):=fun j hj=>by
   rw[ei6 hj,ep7,O7 (by omega),ed4 (by omega)]
 have e:((ts.drop k).take L).map (J0 fs)=(((ts.drop k).take L).drop 1++((ts.drop k).take L).take 1).map some:=by
   refine ej2 fun j=> ?_
   by_cases hj:j < L
   · rw[ed9,hTj j hj,ed9];show some (J0 fs (ts.getD (k+j) 0))=_;rw[h2 j hj]
     by_cases hj1:j+1 < L
     · rw[ef8 (by rw[eg5,hT];omega),ep7,em1 1 j,hTj (j+1) hj1,el2 hj1];rfl
     · have hjL:j+1=L:=by omega
       rw[ef6 (by rw[eg5,hT];omega),eg5,hT,hjL,Nat.mod_self]
       have:j - (L - 1)=0:=by omega
       rw[this,ei6 (by omega),hTj 0 (by omega)];rfl
   · rw[ef0 (by rw[ed2,hT];omega),ef0];rw[ed2,ed6,eg5,ee9 (i:=1),hT];omega
 refine ⟨qs++(((ts.drop k).take L).drop 1++((ts.drop k).take L).take 1),?_,?_⟩
 · rw[List.take_add];refine List.Perm.append hq ?_;refine ek6.trans ?_;rw[ei8]
 · rw[List.take_add,ed8,ed8,h1,e]
end Mth
namespace L2
open PySem PySem.Spec PyProof.Rows
theorem j5.free {a l:Addr}{H H':Hp}(k:j5 a H H')(h:H' l=none)(n:l≠a):H l=none:=by
 cases e:H l with
 |none=>rfl
 |some o=>have:=k l o e n;rw[h] at this;cases this
theorem c6.kb {a:Addr}{H H1 H2:Hp}(s:c6 H H1)(k:j5 a H1 H2)(h:H a=none):c6 H H2:=fun b o e=>k b o (s b o e) (g7 e h)
def x5 (H:Hp)(as:List Addr)(rs:List (List Int)):Prop:=as.length=rs.length/\∀(j:Nat) a r,as[j]? =some a->rs[j]? =some r->H a=some (.lst (r.map V.int))
theorem bd5 {a b:List Int}(h:a.map V.int=b.map V.int):a=b:=(List.map_inj_right (fun x y (h:V.int x=V.int y)=>V.int.inj h)).mp h
end L2
namespace Mth
theorem db1 {p:List Int}(t:E6 p){j:Nat}(h:j < p.length):0<=p.getD j 0/\p.getD j 0 < p.length:=by
 rw[O7 h];exact ⟨t.lo _ (eg9 h),t.hi _ (eg9 h)⟩
end Mth
namespace L2
open PySem PySem.Spec PyProof.Rows
def Ite (K:PySem.W.Frag)(a:Addr):It:=
 ⟨fun i H=>∃xs x,g9 K H a xs/\xs[i]? =some x,fun i H v H'=>∃x t,(∀xs,g9 K H a xs->xs[i]? =some x)/\H t=none/\v= .ref t/\H'=c9 H t (.tup [.int (i:Int),x]),fun i H=>∃xs,g9 K H a xs/\xs.length<=i⟩
theorem cr9 {P:Program}{w:World}{K:PySem.W.Frag}{elts:List Expr}{x1}{pos:Pos}(a e it:Addr)(hne:e≠it):
   bm1 P w K (.Tuple elts x1 pos) (Ite K a) [e,it] e (fun i h=>(∃old,IsEnum h e it i old)/\h.IsListIter it a i) where
 mem:=by simp
 obj:=fun i h st b hb=>by
   obtain ⟨⟨old,he⟩,⟨o,ho,c,d⟩⟩:=st
   have hb:b=e\/b=it:=by simpa using hb
   rcases hb with rfl|rfl
   · exact ⟨_,he,fun v z=>by cases z⟩
   · exact ⟨o,ho,fun v z=>by rw[d] at z;cases z⟩
 keep:=fun i h h' st k=>⟨let ⟨old,he⟩:=st.1;⟨old,k e (by simp) _ he⟩,st.2.at fun o q=>k it (by simp) o q⟩
 item:=by
   intro X hP hw hK hc i pins s σ H E I hf st hg;subst hP hw hK;obtain ⟨⟨old,he⟩,hit⟩:=st;obtain ⟨xs,x,hq,hx⟩:=hg;obtain ⟨its,rv,p,hz⟩:=I.list hq;obtain ⟨u,hu,ru⟩:=rv.get hx;obtain ⟨f0,f1,f2,f3,f4,f5⟩:=hf e (by simp);obtain ⟨g0,g1,g2,g3,g4,g5⟩:=hf it (by simp)
   refine wpAny_pyNext_enum_item he hit p.isList (x:=u) (by simpa using hu) hne fun h' he' hit' ht' hz' hk'=> ?_
   refine ⟨_,rfl,wpAny_letOwnedTupleGo_enum he' fun h2 he2 hs2=> ?_⟩;have hs2:Heap.SameBut e h' h2:=hs2;have eT:e≠s.heap.objs.size:=eh5 (Heap.lt_size he);have ht2:h2.get? s.heap.objs.size=some {cls:= .type "tuple",data:= .seq #[.int i s.toks,u]}:=hs2.extBut _ _ eT.symm ht'
   have kk:∀b o,b≠e->b≠it->s.heap.get? b=some o->h2.get? b=some o:=fun b o b1 b2 q=>hs2.extBut b o b1 (hk' b o b1 b2 q)
   have hn:H s.heap.objs.size=none:=I.hok.fresh (ed5 _)
   have nT:∀b u',H b=some u'->b≠s.heap.objs.size:=fun b u' q=>g7 q hn
   have ne:∀b u',H b=some u'->b≠e/\b≠it:=fun b u' q=>⟨fun z=>(by rw[z,f0] at q;cases q),fun z=>(by rw[z,g0] at q;cases q)⟩
   have I1:i5 X pins σ (c9 H s.heap.objs.size (.tup [.int (i:Int),x])) {s with heap:=h2,gens:=s.gens,drawn:=s.drawn,toks:=s.toks+1}:=by
     refine I.step (ch:=[e,it]) (fun b hb=> ?_) (fun b o _ _ hc q _=>kk b o (fun z=>hc (by simp [z])) (fun z=>hc (by simp [z])) q) (fun b o _ _ hc q _=>⟨o.slots,kk b o (fun z=>hc (by simp [z])) (fun z=>hc (by simp [z])) q⟩)
       (fun b o hc q n=>by rw[g8 (eh5 (Heap.lt_size q))];exact n) (fun b o hc q=>⟨o,kk b o (fun z=>hc (by simp [z])) (fun z=>hc (by simp [z])) q⟩)
       (fun b ys q=>by rw[g8 (nT b _ q)];exact q) (fun b o ys q=>by rw[g8 (nT b _ q)];exact q) (fun b ps q=>⟨#[],by rw[g8 (nT b _ q),q];simp⟩) (fun m hm=> ?_) (fun b u' q=> ?_) I.bare
     · have hb:b=e\/b=it:=by simpa using hb
       rcases hb with rfl|rfl
       · exact ⟨f3,f1,f4,f5⟩
       · exact ⟨g3,g1,g4,g5⟩
     · obtain ⟨o,es,ep,ho,r⟩:=hm;exact ⟨o,es,ep,kk _ o (Ne.symm f1) (Ne.symm g1) ho,r⟩
     · by_cases hb:b=s.heap.objs.size
       · subst hb;rw[c7] at q;cases q;exact ⟨by show 2<=sizeLine;decide,[.int i s.toks,u],.cons ⟨_,rfl⟩ (.cons ru .nil),⟨_,ht2,rfl,0,rfl⟩⟩
       · rw[g8 hb] at q
         refine (I.hok b u' q).stay (fun c v hc q'=> ?_) (fun c q'=>by rw[g8 (nT c _ q')];exact q') fun c ys q'=>by rw[g8 (nT c _ q')];exact q'
         rcases hc with z|z
         · rw[z] at q' ⊢;exact kk b v (ne b _ q).1 (ne b _ q).2 q'
         · exact kk c v (ne c _ z).1 (ne c _ z).2 q'
   refine ⟨.ref s.heap.objs.size,_,I1,rfl,⟨x,s.heap.objs.size,fun ys hy=>by rw[I.list_inj hy hq];exact hx,hn,rfl,rfl⟩,⟨⟨u,?_⟩,?_⟩,fun b hb=> ?_⟩
   · have:((i+1:Nat):Int)=(i:Int)+1:=by push_cast;rfl
     rw[this];exact he2
   · exact hit'.extBut hs2.extBut hne.symm
   · have hb:b=e\/b=it:=by simpa using hb
     rcases hb with rfl|rfl
     · rw[g8 eT];exact f0
     · obtain ⟨o,ho,_⟩:=hit;rw[g8 (eh5 (Heap.lt_size ho))];exact g0
 done:=by
   intro X hP hw hK hc i pins s σ H E I hf st hg;subst hP hw hK;obtain ⟨⟨old,he⟩,hit⟩:=st;obtain ⟨xs,hq,hx⟩:=hg;obtain ⟨its,rv,p,hz⟩:=I.list hq;obtain ⟨g0,g1,g2,g3,g4,g5⟩:=hf it (by simp);have hl:=rv.length
   exact wpAny_pyNext_enum_end (I.ok.hd hc) he hit p.isList (by simp;omega) fun h' eb=>⟨rfl,I.turned (t':=s.toks) (fun b o hb q=>eb b o hb q) g0 g1 g3 g4 g5⟩
 self:=fun _ _ _ _ _ st h=>let ⟨_,he⟩:=st.1;wpAny_pyIter_enum he h
theorem cs0:bootBuiltins "enumerate"=some (.type "enumerate"):=by decide+kernel
section
variable {X:Cx} {l:Expr} {ta:TA} {p pos:Pos} {elts:List Expr} {x1:Nat} {tpos:Pos}
def dv8 (K:PySem.W.Frag)(ta:TA):TI:=fun σ H R=>ta σ H fun vs H1=>∃a,vs=[.ref a]/\(∃xs,g9 K H1 a xs)/\R (Ite K a) H1
theorem ak1 (hm:X.mg "enumerate"=none)(ha:PA X [l] ta)(hg:Gl X "enumerate":=by rfl)(hs:starEach [l] X.env=[(false,eval l X.env)]:=by rfl):PI X (.Tuple elts x1 tpos) (.Call (.Name "enumerate" p) [l] [] pos) (dv8 X.K ta):=by
 intro pins s σ H R I h;refine Call_ (ap5 I hg hm cs0 (PyProof.Rows.callWith_type1 (r6 (ha pos pins s σ H _ I h) fun us s1 ⟨vs,H1,I1,r1,q1⟩=> ?_) hs rfl));obtain ⟨a,e,⟨xs,hq⟩,q⟩:=q1;subst e;obtain ⟨u,rfl,rx⟩:=aj3 r1;cases rx;obtain ⟨its,rv,pl,hz⟩:=I1.list hq
 refine call_enumerate_list pl.isList fun h' he hit hz' hk=> ?_
 refine wpAny_pyIter_enum he ?_;have I2:i5 X pins σ H1 {s1 with heap:=h',toks:=s1.toks}:=I1.kept (t':=s1.toks) hk;refine ⟨s1.heap.objs.size+1,[s1.heap.objs.size+1,s1.heap.objs.size],_,_,H1,rfl,I2,cr9 a (s1.heap.objs.size+1) s1.heap.objs.size (Nat.succ_ne_self _),⟨⟨.none,he⟩,hit⟩,fun b hb=> ?_,q⟩
 have hb:b=s1.heap.objs.size+1\/b=s1.heap.objs.size:=by simpa using hb
 rcases hb with rfl|rfl
 · exact I1.fpOk (by omega) (I1.hok.fresh (by omega))
 · exact I1.fpOk (by omega) (I1.hok.fresh (by omega))
end
theorem al2 {K:PySem.W.Frag}{a:Addr}{xs:List V}{g:TG}{tb:TS}{D:W4}{σ:St}{H:Hp}(Pv:Nat->St->Hp->Prop)(h0:Pv 0 σ H)(hl:∀i σ H,i<=xs.length->Pv i σ H->g9 K H a xs)
   (hs:∀i x σ H t,xs[i]? =some x->Pv i σ H->H t=none->g (.ref t) σ (c9 H t (.tup [.int (i:Int),x])) fun σ2 H2=>tb {D with nx:=Pv (i+1),ct:=Pv (i+1),bk:=D.nx} σ2 H2) (hd:∀σ H,Pv xs.length σ H->D.nx σ H):
   ∃W:Nat->Nat->St->Hp->Prop,(∃m,W 0 m σ H)/\∀i m σ H,W i m σ H->
    ((Ite K a).stop i H/\D.nx σ H)\/((Ite K a).go i H/\∃N:St->Hp->Prop,(∀σ' H',N σ' H'->∃m',m' < m/\W (i+1) m' σ' H')/\∀x H',(Ite K a).yld i H x H'->g x σ H' fun σ2 H2=>tb {D with nx:=N,ct:=N,bk:=D.nx} σ2 H2):=by
 refine ⟨fun i m σ H=>m=xs.length - i/\i<=xs.length/\Pv i σ H,⟨xs.length,by simp,ef5 _,h0⟩,?_⟩;rintro i m σ H ⟨rfl,hi,p⟩;have q:=hl i σ H hi p
 by_cases hlt:i < xs.length
 · refine .inr ⟨⟨xs,xs[i],q,by simp [hlt]⟩,Pv (i+1),fun σ' H' p'=>⟨xs.length - (i+1),by omega,rfl,hlt,p'⟩,fun x H' y=> ?_⟩;obtain ⟨x',t,y1,y2,e1,e2⟩:=y;subst e1 e2;exact hs i x' σ _ t (y1 xs q) p y2
 · have e:i=xs.length:=by omega
   subst e;exact .inl ⟨⟨xs,q,ed5 _⟩,hd σ H p⟩
end L2
namespace Mth
def nx (p:List Int)(x:Int):Int:=p.getD x.toNat 0
def it (p:List Int):Nat->Int->Int
 |0,x=>x
 |i+1,x=>nx p (it p i x)
def In (p:List Int)(x:Int):Prop:=0<=x/\x < p.length
theorem dv9 {p:List Int}(t:E6 p){x:Int}(h:In p x):In p (nx p x):=db1 t (j:=x.toNat) (by have:=h.1;have:=h.2;omega)
theorem dq4 {p:List Int}(t:E6 p){x y:Int}(hx:In p x)(hy:In p y)(h:nx p x=nx p y):x=y:=by
 have a1:=hx.1;have a2:=hx.2;have b1:=hy.1;have b2:=hy.2
 by_cases e:x.toNat=y.toNat
 · omega
 · exact absurd h (V3 t.nd (i:=x.toNat) (j:=y.toNat) (by omega) (by omega) e)
theorem ac7 {p:List Int}(t:E6 p){x:Int}(h:In p x):∀i,In p (it p i x)
 |0=>h
 |i+1=>dv9 t (ac7 t h i)
theorem M8 (p:List Int)(x:Int):∀i j,it p (i+j) x=it p i (it p j x)
 |0,j=>by rw[eo0];rfl
 |i+1,j=>by
  rw[Nat.add_right_comm];show nx p (it p (i+j) x)=nx p (it p i (it p j x));rw[M8 p x i j]
theorem di1 (p:List Int)(x:Int)(i:Nat):it p (i+1) x=it p i (nx p x):=by
 rw[M8 p x i 1];rfl
theorem bj1 {p:List Int}(t:E6 p){x y:Int}(hx:In p x)(hy:In p y):∀i,it p i x=it p i y->x=y
 |0,h=>h
 |i+1,h=>bj1 t hx hy i (dq4 t (ac7 t hx i) (ac7 t hy i) h)
structure S8 (p:List Int)(x:Int)(L:Nat):Prop where
 pos:0 < L
 back:it p L x=x
 least:∀i,0 < i->i < L->it p i x≠x
theorem S8.uniq {p:List Int}{x:Int}{L M:Nat}(h:S8 p x L)(g:S8 p x M):L=M:=by
 rcases Nat.lt_trichotomy L M with z|z|z
 · exact absurd h.back (g.least L h.pos z)
 · exact z
 · exact absurd g.back (h.least M g.pos z)
theorem bj2 {p:List Int}{x:Int}{L:Nat}(h:it p L x=x):∀q,it p (L*q) x=x
 |0=>by rw[em3];rfl
 |q+1=>by rw[Nat.mul_succ,M8,h,bj2 h q]
theorem bj3 {p:List Int}{x:Int}{L:Nat}(h:it p L x=x)(i:Nat):it p (i%L) x=it p i x:=by
 conv=>rhs;rw[<-ex5 i L,em1,M8,bj2 h]
theorem ch8 {p:List Int}{x:Int}{L:Nat}(h:it p L x=x){a b:Nat}(e:a%L=b%L):it p a x=it p b x:=by
 rw[<-bj3 h a,e,bj3 h]
theorem S8.shift {p:List Int}(t:E6 p){x:Int}{L:Nat}(hx:In p x)(h:S8 p x L)(j:Nat):S8 p (it p j x) L:=by
 refine ⟨h.pos,?_,fun i i0 i1 e=> ?_⟩
 · rw[<-M8,em1,M8,h.back]
 · rw[<-M8,em1,M8] at e;exact h.least i i0 i1 (bj1 t (ac7 t hx i) hx j e)
def o6 (p:List Int)(x:Int)(L:Nat):List Int:=(ei1 L).map fun i=>it p i x
theorem x6 (p:List Int)(x:Int)(L:Nat):(o6 p x L).length=L:=by unfold o6;rw[ed2,eh2]
theorem cs1 {p:List Int}{x:Int}{L j:Nat}(h:j < L):(o6 p x L)[j]? =some (it p j x):=by
 unfold o6;rw[ed9,ek0 h];rfl
theorem Y4 {p:List Int}{x:Int}{L j:Nat}(h:j < L):(o6 p x L).getD j 0=it p j x:=by
 rw[ee4,cs1 h];rfl
theorem M9 {p:List Int}{x y:Int}{L:Nat}:y∈o6 p x L↔∃j,j < L/\y=it p j x:=by
 unfold o6;rw[ee5];constructor
 · rintro ⟨j,hj,rfl⟩;exact ⟨j,ei2.mp hj,rfl⟩
 · rintro ⟨j,hj,rfl⟩;exact ⟨j,ei2.mpr hj,rfl⟩
theorem at4 (p:List Int)(x:Int)(m:Nat):o6 p x (m+1)=o6 p x m++[it p m x]:=by
 unfold o6;rw[eq4,ed8];rfl
theorem ag6 {p:List Int}(t:E6 p){x:Int}(hx:In p x){m:Nat}(h:∀i,0 < i->i < m->it p i x≠x):(o6 p x m).Nodup:=by
 unfold o6;rw[ef9,em6];refine List.Pairwise.imp_of_mem (fun {a b} ha hb hlt e=> ?_) es9;have hb:=ei2.mp hb
 have e2:b=a+(b - a):=by omega
 rw[e2,M8] at e;exact h (b - a) (by omega) (by omega) (bj1 t (ac7 t hx _) hx a e.symm)
theorem cs2:∀(n:Nat) (l:List Nat),l.Nodup->(∀x∈l,x < n)->l.length<=n:=by
 intro n
 induction n with
 |zero=>
  intro l _ hb
  cases l with
  |nil=>exact ed5 _
  |cons a r=>exact absurd (hb a ed7) (Nat.not_lt_zero _)
 |succ n ih=>
  intro l nd hb
  by_cases hn:n∈l
  · obtain ⟨s,u,rfl⟩:=List.append_of_mem hn;have pm:(s++n::u).Perm (n::(s++u)):=List.perm_middle;obtain ⟨h1,h2⟩:=ei5.mp (pm.nodup_iff.mp nd)
    have:=ih (s++u) h2 fun x hx=>by
      have hx':=hb x (pm.mem_iff.mpr (ee0 _ hx))
      have:x≠n:=fun e=>h1 (e▸hx)
      omega
    rw[pm.length_eq,eg3];omega
  · exact Nat.le_succ_of_le (ih l nd fun x hx=>by
      have h1:=hb x hx
      have:x≠n:=fun e=>hn (e▸hx)
      omega)
theorem ay7 {p:List Int}{r:List Int}(nd:r.Nodup)(h:∀x∈r,In p x):r.length<=p.length:=by
 have:=cs2 p.length (r.map eq8) (by
   rw[ef9,em6];refine List.Pairwise.imp_of_mem (fun {a b} ha hb hne z=>hne ?_) (ef9.mp nd);have h1:=(h a ha).1;have h2:=(h b hb).1
   omega) fun x hx=>by
     obtain ⟨y,hy,rfl⟩:=ee5.mp hx;have h1:=(h y hy).1;have h2:=(h y hy).2;omega
 rw[ed2] at this;exact this
theorem ae7 {p:List Int}(t:E6 p){x:Int}(hx:In p x){L:Nat}:∀y∈o6 p x L,In p y:=fun y hy=>by
 obtain ⟨j,_,rfl⟩:=M9.mp hy;exact ac7 t hx j
theorem O1 {p:List Int}(t:E6 p){x:Int}(hx:In p x){m:Nat}(h:∀i,0 < i->i < m->it p i x≠x):m<=p.length:=by
 have:=ay7 (ag6 t hx h) (ae7 t hx);rw[x6] at this;exact this
theorem cf2 {p:List Int}{x y:Int}{L:Nat}(h:S8 p x L)(hy:y∈o6 p x L)(i:Nat):it p i y∈o6 p x L:=by
 obtain ⟨j,hj,rfl⟩:=M9.mp hy;refine M9.mpr ⟨(i+j)%L,en6 _ h.pos,?_⟩;rw[bj3 h.back,M8]
theorem cs3 {p:List Int}{x y z:Int}{L M:Nat}(h:S8 p x L)(g:S8 p y M)(h1:z∈o6 p x L)(h2:z∈o6 p y M):y∈o6 p x L:=by
 obtain ⟨j,hj,rfl⟩:=M9.mp h2;have:=cf2 h h1 (M - j);rw[<-M8,show M - j+j=M by omega,g.back] at this;exact this
open Classical in
noncomputable def ag7 (p:List Int)(x:Int):Nat:=if h:∃L,S8 p x L then Classical.choose h else 0
theorem bf1 {p:List Int}{x:Int}{L:Nat}(h:S8 p x L):ag7 p x=L:=by
 have hx:∃L,S8 p x L:=⟨L,h⟩;unfold ag7;rw[dif_pos hx];exact (Classical.choose_spec hx).uniq h
noncomputable def C5 (p:List Int):Nat->List (List Int)
 |0=>[]
 |i+1=>if (i:Int)∈(C5 p i).flatten then C5 p i else C5 p i++[o6 p i (ag7 p i)]
structure J5 (p:List Int)(i:Nat)(rs:List (List Int)):Prop where
 ring:∀r∈rs,∃x L,In p x/\S8 p x L/\r=o6 p x L/\(∀y∈r,x<=y)/\x < i
 nd:rs.flatten.Nodup
 all:∀u:Int,0<=u->u < i->u∈rs.flatten
 ord:rs.Pairwise fun r s=>r.getD 0 0 < s.getD 0 0
 eq:rs=C5 p i
theorem at5 (p:List Int):J5 p 0 []:=⟨fun r hr=>by simp at hr,ej6,fun u h1 h2=>by omega,List.Pairwise.nil,rfl⟩
theorem at6 {p:List Int}{i:Nat}{rs:List (List Int)}(h:J5 p i rs)(hi:(i:Int)∈rs.flatten):J5 p (i+1) rs:=by
 refine ⟨fun r hr=> ?_,h.nd,fun u h1 h2=> ?_,h.ord,?_⟩
 · obtain ⟨x,L,a,b,c,d,e⟩:=h.ring r hr;exact ⟨x,L,a,b,c,d,by omega⟩
 · by_cases e:u=i
   · subst e;exact hi
   · exact h.all u h1 (by omega)
 · show rs=if (i:Int)∈(C5 p i).flatten then C5 p i else C5 p i++[o6 p i (ag7 p i)]
   rw[<-h.eq,if_pos hi]
theorem ao5 {p:List Int}{i:Nat}{rs:List (List Int)}(h:J5 p i rs){L:Nat}(hL:S8 p i L)(hi:(i:Int)∉rs.flatten):∀y∈o6 p i L,y∉rs.flatten:=by
 intro y hy hm;obtain ⟨r,hr,hyr⟩:=ek1.mp hm;obtain ⟨x,M,a,b,rfl,d,e⟩:=h.ring r hr;exact hi (ek1.mpr ⟨_,hr,cs3 b hL hyr hy⟩)
theorem at8 {p:List Int}(t:E6 p){i:Nat}{rs:List (List Int)}(h:J5 p i rs)(hx:In p i){L:Nat}(hL:S8 p i L)(hi:(i:Int)∉rs.flatten):J5 p (i+1) (rs++[o6 p i L]):=by
 have fr:=ao5 h hL hi;refine ⟨fun r hr=> ?_,?_,fun u h1 h2=> ?_,?_,?_⟩
 · rcases ee2.mp hr with z|z
   · obtain ⟨x,L,a,b,c,d,e⟩:=h.ring r z;exact ⟨x,L,a,b,c,d,by omega⟩
   · have:r=o6 p i L:=by simpa using z
     subst this;refine ⟨i,L,hx,hL,rfl,fun y hy=> ?_,by omega⟩;have y0:=(ae7 t hx y hy).1
     by_cases hlt:y < i
     · exact absurd (h.all y y0 hlt) (fr y hy)
     · omega
 · rw[ek5,el4];refine ek7.mpr ⟨h.nd,ag6 t hx fun j j0 j1=>hL.least j j0 j1,fun a ha b hb e=> ?_⟩;subst e;exact fr a hb ha
 · rw[ek5,el4]
   by_cases e:u=i
   · subst e;exact ef1 _ (M9.mpr ⟨0,hL.pos,rfl⟩)
   · exact eh8 _ (h.all u h1 (by omega))
 · refine List.pairwise_append.mpr ⟨h.ord,ep5 _ _,fun r hr s hs=> ?_⟩
   have:s=o6 p i L:=by simpa using hs
   subst this;obtain ⟨x,M,a,b,rfl,d,e⟩:=h.ring r hr;rw[Y4 b.pos,Y4 hL.pos];exact e
 · show rs++[o6 p i L]=if (i:Int)∈(C5 p i).flatten then C5 p i else C5 p i++[o6 p i (ag7 p i)]
   rw[<-h.eq,if_neg hi,bf1 hL]
def ac8 (p:List Int)(k:Int)(t:List Int):Prop:=t.length=p.length/\∀x,In p x->∃L,S8 p x L/\J0 t x=some (it p (k%(L:Int)).toNat x)
theorem cm1 {p:List Int}{x:Int}{L:Nat}(h:S8 p x L)(k:Int)(j:Nat):it p (((j:Int)+k)%(L:Int)).toNat x=it p (k%(L:Int)).toNat (it p j x):=by
 rw[<-M8];refine ch8 h.back ?_
 have hL:(0:Int) < (L:Int):=by have:=h.pos;omega
 have a1:=eh6 ((j:Int)+k) (show (L:Int)≠0 by omega);have b1:=eh6 k (show (L:Int)≠0 by omega)
 have:(((((j:Int)+k)%(L:Int)).toNat%L:Nat):Int)=((((k%(L:Int)).toNat+j)%L:Nat):Int):=by
   rw[el9,el9,eu0 a1,ex6,eu0 b1,Int.emod_emod,Int.emod_add_emod,Int.add_comm]
 exact Int.ofNat.inj this
end Mth
namespace Mth
theorem cs4 {p:List Int}{x:Int}(h:In p x):J0 p x=some (nx p x):=by
 have a1:=h.1;have a2:=h.2;unfold J0 nx;rw[ee4,ed4 (by omega)];rfl
end Mth
namespace Mth
theorem ac8.uniq {p:List Int}{k:Int}{s t:List Int}(h:ac8 p k s)(g:ac8 p k t):s=t:=by
 refine ej2 fun u=> ?_
 by_cases hu:u < p.length
 · have hx:In p (u:Int):=⟨by omega,by omega⟩;obtain ⟨L,h1,h2⟩:=h.2 u hx;obtain ⟨M,g1,g2⟩:=g.2 u hx;have e:=h1.uniq g1;subst e;unfold J0 at h2 g2;rw[ej1] at h2 g2;rw[h2,g2]
 · rw[ef0 (by rw[h.1];omega),ef0 (by rw[g.1];omega)]
end Mth
namespace Mth
theorem by1 {p:List Int}(t:E6 p){x:Int}(hx:In p x):∃L,S8 p x L:=by
 have h0:∃i,0 < i/\i<=p.length/\it p i x=x:=Classical.byContradiction fun hn=>by
   have:=O1 t hx (m:=p.length+1) fun i i0 i1 e=>hn ⟨i,i0,by omega,e⟩
   omega
 have key:∀n,(∃i,0 < i/\i<=n/\it p i x=x)->∃L,S8 p x L:=by
   intro n
   induction n with
   |zero=>rintro ⟨i,i0,i1,_⟩;omega
   |succ n ih=>
    rintro ⟨i,i0,i1,e⟩
    by_cases h:∃j,0 < j/\j<=n/\it p j x=x
    · exact ih h
    · refine ⟨i,i0,e,fun j j0 j1 ej=>h ⟨j,j0,by omega,ej⟩⟩
 exact key _ h0
theorem db2 {p:List Int}{x:Int}{L:Nat}(h:S8 p x L){a b:Nat}(e:((a:Int) - (b:Int))%(L:Int)=0):it p a x=it p b x:=by
 refine ch8 h.back ?_
 have:((a%L:Nat):Int)=((b%L:Nat):Int):=by
   rw[el9,el9]
   exact Int.emod_emod_of_dvd _ (Int.dvd_refl _)|>.symm.trans (by
     rw[Int.emod_emod]
     exact (Int.emod_eq_emod_iff_emod_sub_eq_zero).mpr e)
 exact Int.ofNat.inj this
theorem cs5 {t:List Int}(h1:∀x:Int,0<=x->x < t.length->0<=nx t x/\nx t x < t.length)(h2:∀x y:Int,0<=x->x < t.length->0<=y->y < t.length->nx t x=nx t y->x=y):E6 t:=by
 have g:∀i (hi:i < t.length),nx t (i:Int)=t[i]:=fun i hi=>by unfold nx;rw[ej1,O7 hi]
 refine ⟨?_,fun x hx=> ?_,fun x hx=> ?_⟩
 · rw[ef9,eg8];intro i j hi hj hlt e;have:=h2 i j (by omega) (by omega) (by omega) (by omega) (by rw[g i hi,g j hj];exact e);omega
 · obtain ⟨i,hi,rfl⟩:=List.mem_iff_getElem.mp hx;rw[<-g i hi];exact (h1 i (by omega) (by omega)).1
 · obtain ⟨i,hi,rfl⟩:=List.mem_iff_getElem.mp hx;rw[<-g i hi];exact (h1 i (by omega) (by omega)).2
theorem dq5 {p t:List Int}{k:Int}(tp:E6 p)(hl:t.length=p.length)(h:∀x,In p x->∀L,S8 p x L->∃m:Nat,((m:Int) - k)%(L:Int)=0/\nx t x=it p m x):ac8 p k t:=by
 refine ⟨hl,fun x hx=> ?_⟩;obtain ⟨L,hL⟩:=by1 tp hx;obtain ⟨m,hm,e⟩:=h x hx L hL;refine ⟨L,hL,?_⟩;rw[cs4 (p:=t) ⟨hx.1,by rw[hl];exact hx.2⟩,e]
 congr 1
 refine db2 hL ?_;have b0:=eh6 k (show (L:Int)≠0 by have:=hL.pos;omega);rw[eu0 b0]
 have:(m:Int) - k%(L:Int)=((m:Int) - k)+(k - k%(L:Int)):=by omega
 rw[this];exact Int.emod_eq_zero_of_dvd (Int.dvd_add (Int.dvd_of_emod_eq_zero hm) Int.dvd_self_sub_emod)
end Mth
namespace L2
open PySem PySem.Spec PyProof.Rows
theorem cs6 {K:PySem.W.Frag}{a:Addr}{xs:List V}{g:TG}{tc:TT}{te:TE}{σ0:St}{H:Hp}{Q:VK}(Pv:Nat->List V->St->Hp->Prop)(h0:Pv 0 [] σ0 H)(hl:∀i ys σ H,i<=xs.length->Pv i ys σ H->g9 K H a xs)
   (hs:∀i x ys σ H t,xs[i]? =some x->Pv i ys σ H->H t=none->g (.ref t) σ (c9 H t (.tup [.int (i:Int),x])) fun σ2 H2=>tc σ2 H2 fun b H4=>if b=true then te σ2 H4 fun y H5=>ys.length < sizeLine/\Pv (i+1) (ys++[y]) σ2 H5 else Pv (i+1) ys σ2 H4)
   (hd:∀ys σ H,Pv xs.length ys σ H->∀D,H D=none->Q (.ref D) (c9 H D (.lst ys))):bv9 (Ite K a) g tc te Q σ0 H:=by
 refine ⟨fun i m ys σ H=>m=xs.length - i/\i<=xs.length/\Pv i ys σ H,⟨xs.length,by simp,ef5 _,h0⟩,?_⟩;rintro i m ys σ H ⟨rfl,hi,p⟩;have q:=hl i ys σ H hi p
 by_cases hlt:i < xs.length
 · refine .inr ⟨⟨xs,xs[i],q,by simp [hlt]⟩,Pv (i+1),fun ys' σ' H' p'=>⟨xs.length - (i+1),by omega,rfl,hlt,p'⟩,fun x H' y=> ?_⟩;obtain ⟨x',t,y1,y2,e1,e2⟩:=y;subst e1 e2;exact hs i x' ys σ _ t (y1 xs q) p y2
 · have e:i=xs.length:=by omega
   subst e;exact .inl ⟨⟨xs,q,ed5 _⟩,hd ys σ H p⟩
end L2
namespace L2
open PySem PySem.Spec PyProof.Rows
theorem di2 (K:PySem.W.Frag){X:Cx}{es:List Expr}{k:Nat}{t:TGs}{n:Nat}{pos:Pos}(hc:X.calm=true)(h:PGs X es t)(hK:X.K=K:=by rfl)
   (hn:(assignEach es X.env).length=n:=by rfl) (hst:(assignEach es X.env).findIdx? (·.1)=none:=by rfl):PG X (.Tuple es k pos) (do1 K n t):=by
 subst hK;exact X0 hc h hn hst
end L2
namespace L2
open PySem PySem.Spec PyProof.Rows
theorem au0 (xs:List V)(k:Nat)(h:k<=xs.length):w5 xs (some (k:Int)) none=xs.drop k:=by
 unfold w5;rw[HT.eb6,HT.ea0,et8 h,en0 (by rw[eg5];omega)]
theorem bj4 (xs:List V)(k:Nat)(h:k<=xs.length):w5 xs none (some (k:Int))=xs.take k:=by
 unfold w5;rw[HT.eb6,HT.ea0,et8 h,ey3,Nat.sub_zero]
def ac9 (H:Hp)(e:Addr):List Int:=match H e with
 |some (.lst xs)=>xs.map bj0
 |_=>[]
theorem bf2 {H:Hp}{e:Addr}{r:List Int}(h:H e=some (.lst (r.map V.int))):ac9 H e=r:=by
 unfold ac9;rw[h];show (r.map V.int).map bj0=r;rw[ej5]
 conv=>rhs;rw[<-er8 r]
 rfl
theorem cm2 {H:Hp}{as:List Addr}{rs:List (List Int)}(h:x5 H as rs):as.map (ac9 H)=rs:=by
 refine ej2 fun j=> ?_
 rw[ed9]
 by_cases hj:j < as.length
 · have e1:as[j]? =some as[j]:=ed4 hj;have e2:rs[j]? =some (rs[j]'(by rw[<-h.1];exact hj)):=ed4 _;rw[e1,e2];show some (ac9 H as[j])=_;rw[bf2 (h.2 j _ _ e1 e2)]
 · rw[ef0 (by omega),ef0 (by rw[<-h.1];omega)];rfl
end L2
namespace L2
open PySem PySem.Spec PyProof.Rows
theorem ay8:bootBuiltins "sorted"=some (.builtin "sorted"):=by decide+kernel
section
variable {X:Cx}
theorem cf3 {pins:List (Addr×Obj)}{σ:St}{H:Hp}{s:Shared}(I:i5 X pins σ H s){vs:List Value}{out:Array Value}{ms:List Int}(h:IntsAre out.toList ms)(hl:ms.length<=sizeLine):
   i5 X pins σ (c9 H (s.heap.objs.size+1) (.lst (ms.map V.int))) {s with heap:=sortedAll s.heap vs out,toks:=s.toks}:=by
 obtain ⟨e,he⟩:=sortedAll_at s.heap vs out;refine I.laid (t':=s.toks) (fun _ _ q=>sortedAll_old q) (eq7 _) (show y9 X.prog X.w _ _ _ (.lst (ms.map V.int)) from ⟨by rw[ed2];exact hl,out.toList,e,ay4 h,he⟩)
theorem cf4:U7 X (.builtin "sorted") (fun xs H Q=>∃(p:Addr) (ns:List Int),xs=[.ref p]/\g9 X.K H p (ns.map V.int)/\ns.length < 64/\∀(ms:List Int) l,ms.Perm ns->ms.Pairwise (· <= ·)->H l=none->Q (.ref l) (c9 H l (.lst (ms.map V.int)))):=by
 intro pins s σ H xs us Q I r h;obtain ⟨p,ns,rfl,hp,h64,q⟩:=h;obtain ⟨u,rfl,rx⟩:=aj3 r;cases rx;obtain ⟨its,rv,pl,_⟩:=I.list hp;have ia:=as2 rv;have il:=ia.length
 refine sorted_ints pl.isList ia (by omega) fun out ms a1 a2 a3=> ?_
 have hl:ms.length<=sizeLine:=by rw[a2.length_eq];exact eh1 (m8 (by omega))
 exact ⟨.ref (s.heap.objs.size+1),_,cf3 I a1 hl,rfl,q ms _ a2 a3 (I.hok.fresh (eq7 _))⟩
variable {e:Expr} {t:TA} {p pos kpos:Pos}
theorem cs7 (hm:X.mg "sorted"=none)(ha:PA X [e] t)(hg:Gl X "sorted":=by rfl)(he:starEach [e] X.env=(false,eval e X.env)::starEach [] X.env:=by rfl):
   PE X (.Call (.Name "sorted" p) [e] [] pos) (tCB (fun xs H Q=>∃(p:Addr) (ns:List Int),xs=[.ref p]/\g9 X.K H p (ns.map V.int)/\ns.length < 64/\∀(ms:List Int) l,ms.Perm ns->ms.Pairwise (· <= ·)->H l=none->Q (.ref l) (c9 H l (.lst (ms.map V.int)))) t):=
 U9 cf4 hg hm ay8 ha (by decide) (by decide) he rfl
def ea7 (K:PySem.W.Frag)(te:TE)(ts:TO):TE:=fun σ H Q=>te σ H fun x H1=>ts σ H1 fun o H2=>o=some (-1)/\∃a xs,x= .ref a/\g9 K H2 a xs/\∀p,H2 p=none->Q (.ref p) (c9 H2 p (.lst xs.reverse))
theorem dq6 {st:Expr}{te:TE}{ts:TO}{p2:Pos}(he:PE X e te)(hst:PO X (some st) ts):PE X (.Subscript e (.Slice none none (some st) p2) pos) (ea7 X.K te ts):=by
 intro pins s σ H Q I h;refine Subscript_ (r6 (he pins s σ H _ I h) fun v s1 ⟨x,H1,I1,r1,q1⟩=> ?_);refine wpAny_Slice ?_;rw[evalPart_none];refine wpAny_pure (wpAny_pure ?_)
 refine r6 (hst pins s1 σ H1 _ I1 q1) fun vk s3 ⟨k,H3,I3,pk,ek,a,xs,ex,hx,q⟩=> ?_
 subst ek ex;cases r1
 have I4:i5 X pins σ H3 {s3 with heap:=s3.heap.push {cls:= .type "slice",data:= .fields #[.none,.none,vk]}}:=I3.kept (t':=s3.toks) fun b ob q=>Heap.get?_push_of_some _ q
 obtain ⟨its,r,ht,hz⟩:=I4.list hx;have hlen:=r.length;show wpAny (model X.prog X.w) X.A (subscriptTail e (.Slice none none (some st) p2) (.ref a) (.ref s3.heap.objs.size)) (EP X pins σ Q) X.xe {s3 with heap:=s3.heap.push {cls:= .type "slice",data:= .fields #[.none,.none,vk]}};refine tail_any (ops:=[.ref a,.ref s3.heap.objs.size]) (T:="list") ht.isList.typeIs slot_list_getitem.lookup ?_ rfl;refine wpAny_getItem_list_slice ht.isList (Heap.IsSliceOf.new ..) .none .none pk (by decide) ?_ (by rw[ee7]<;>omega);rw[PySem.W.krv_pick]
 have I5:=I4.laid (t':=s3.toks) (o:= .lst xs.reverse) (h':=(s3.heap.push {cls:= .type "slice",data:= .fields #[.none,.none,vk]}).push {cls:= .type "list",data:= .seq its.reverse.toArray}) (a:=(s3.heap.push {cls:= .type "slice",data:= .fields #[.none,.none,vk]}).objs.size)
   (fun b ob q=>Heap.get?_push_of_some _ q) (ed5 _) ⟨by rw[eo4];exact hz,its.reverse,0,r.reverse,Heap.get?_push_size _ rfl⟩
 exact ⟨.ref _,_,I5,rfl,q _ (I4.hok.fresh (ed5 _))⟩
end
end L2
namespace Mth
theorem bd6:∀{a b:List Int},a.Perm b->a.Pairwise (· ≥ ·)->b.Pairwise (· ≥ ·)->a=b
 |[],b,h,_,_=>by rw[List.nil_perm.mp h]
 |x::a,[],h,_,_=>by exact absurd h.length_eq (by simp)
 |x::a,y::b,h,ha,hb=>by
  obtain ⟨a1,a2⟩:=eu6.mp ha;obtain ⟨b1,b2⟩:=eu6.mp hb
  have hxy:x=y:=by
    have h1:x∈y::b:=h.mem_iff.mp ed7;have h2:y∈x::a:=h.mem_iff.mpr ed7
    have l1:y≥x:=by
      rcases ee8.mp h1 with e|e
      · exact Int.le_of_eq e
      · exact b1 x e
    have l2:x≥y:=by
      rcases ee8.mp h2 with e|e
      · exact Int.le_of_eq e
      · exact a1 y e
    omega
  subst hxy;rw[bd6 ((List.perm_cons x).mp h) a2 b2]
end Mth
namespace L2
open PySem PySem.Spec PyProof.Rows
def aq1:List Expr->Option (List Int)
 |[]=>some []
 | .Constant (.int i) _ _::es=>(aq1 es).map (i:: ·)
 |_::_=>none
def dw0 (ns:List Int):TA:=fun _ H Q=>Q (ns.map V.int) H
theorem by2 (i:Int)(j:Nat)(p:Pos)(es:List Expr)(env:Env):starEach (.Constant (.int i) j p::es) env=(false,eval (.Constant (.int i) j p) env)::starEach es env:=rfl
theorem by3 {X:Cx}:∀(es:List Expr) (ns:List Int),aq1 es=some ns->PA X es (dw0 ns)
 |[],ns,h=>by
  have:ns=[]:=(Option.some.inj h).symm;subst this
  exact fun pos pins s σ H Q I h=>j8 pos pins s σ H Q I h
 |e::es,ns,h=>by
  unfold aq1 at h
  split at h
  · rename_i h0;cases h0
  · rename_i i j p es' heq;cases heq
    cases ho:aq1 es with
    |none=>rw[ho] at h;cases h
    |some ms=>
     rw[ho] at h;cases h
     exact fun pos pins s σ H Q I h=>(e7 (te:=tC (.int i)) h8 (by3 es ms ho) (by2 i j p es X.env)) pos pins s σ H Q I h
  · cases h
end L2
namespace L2
open PySem PySem.Spec PyProof.Rows
theorem cs8 {H:Hp}{a:Addr}{as:List Addr}{r:List Int}{rs:List (List Int)}(h:H a=some (.lst (r.map V.int)))(hr:x5 H as rs):x5 H (a::as) (r::rs):=by
 refine ⟨by rw[eg3,eg3,hr.1],fun j b q h1 h2=> ?_⟩
 cases j with
 |zero=>
  rw[ew8] at h1 h2;cases h1;cases h2;exact h
 |succ j=>
  rw[ew9] at h1 h2;exact hr.2 j b q h1 h2
theorem by4 {H:Hp}:∀{as bs:List Addr} {rs qs:List (List Int)},x5 H as rs->x5 H bs qs->x5 H (as++bs) (rs++qs)
 |[],bs,[],qs,_,h=>h
 |[],bs,r::rs,qs,h,_=>by have:=h.1;simp at this
 |a::as,bs,[],qs,h,_=>by have:=h.1;simp at this
 |a::as,bs,r::rs,qs,h,h'=>cs8 (h.2 0 a r rfl rfl) (by4 ⟨by have:=h.1;simpa using this,fun j b q h1 h2=>h.2 (j+1) b q h1 h2⟩ h')
end L2
namespace L2
open PySem PySem.Spec PyProof.Rows
section
variable {X:Cx}
theorem db3 {P:Program}{w:World}{k:q9}{u:Value}(h:(C8 P w).is k u=true):o9 (kV k) u:=by
 cases k with
 |inl i=>
  cases u with
  |int j t=>
   have:i=j:=by
     have h2:=KeyKind.is_eq_decide (knd:=C8 P w) (bd0 P w j t) (Sum.inl i);rw[h] at h2;have:=of_decide_eq_true h2.symm;exact Sum.inl.inj this
   subst this;exact ⟨t,rfl⟩
  |_=>cases h
 |inr x=>
  cases u with
  |str y t=>
   have:x=y:=by
     have h2:=KeyKind.is_eq_decide (knd:=C8 P w) (bd1 P w y t) (Sum.inr x);rw[h] at h2;have:=of_decide_eq_true h2.symm;exact Sum.inr.inj this
   subst this;exact ⟨t,rfl⟩
  |_=>cases h
theorem i5.freeze {pins:List (Addr×Obj)}{σ:St}{H:Hp}{s:Shared}{a:Addr}{kvs:List (q9×V)}{o:Obj}(I:i5 X pins σ H s)(e:H a=some (.dK kvs))(ho:s.heap.get? a=some o):i5 X pins σ (c9 H a (.frz o (.dK kvs))) s:=by
 have ok:y9 X.prog X.w H s.heap a (.dK kvs):=I.hok a _ e;exact bb4 (h':=s.heap) (t':=s.toks) I (by rw[e];exact True.intro) ⟨rfl,fun b _=>rfl⟩ ⟨o,ho⟩ ⟨ho,ok⟩
def Itd (d:Addr)(o:Obj)(kvs:List (q9×V)):It:=
 ⟨fun i H=>H d=some (.frz o (.dK kvs))/\i < kvs.length,fun i H x H'=>H'=H/\∃k v,kvs[i]? =some (k,v)/\x=kV k,fun i H=>H d=some (.frz o (.dK kvs))/\kvs.length<=i⟩
theorem df4 {P:Program}{w:World}{H:Hp}{h:Heap}{d:Addr}{o:Obj}{kvs:List (q9×V)}(x:y9 P w H h d (.frz o (.dK kvs))){es:Array DictEntry}{ep:Nat}(hd:o.data= .dict es ep):∃vs,KV kvs vs/\h.DictAt (C8 P w) d vs ep:=by
 obtain ⟨ho,_,_,vs,rel,o',es',ep',ho',hc,hd',r⟩:=x;rw[ho] at ho';cases ho';rw[hd] at hd';cases hd';exact ⟨vs,rel,o,es,ho,hc,hd,r⟩
theorem cm3 {α β:Type}{R:α->β->Prop}{xs:List α}{ys:List β}(h:Paired R xs ys):∀{i:Nat} {x:α},xs[i]? =some x->∃y,ys[i]? =some y/\R x y:=by
 induction h with
 |nil=>intro i x e;simp at e
 |cons r _ ih=>
  intro i x e
  cases i with
  |zero=>rw[ew8] at e;cases e;exact ⟨_,rfl,r⟩
  |succ i=>rw[ew9] at e;exact ih e
theorem ay9 {P:Program}{w:World}{K:PySem.W.Frag}{tg:Expr}(d it:Addr)(o:Obj)(kvs:List (q9×V))(es:Array DictEntry)(ep:Nat)(hdat:o.data= .dict es ep):bm1 P w K tg (Itd d o kvs) [it] it (fun i h=>h.IsKeyIter it d i kvs.length ep) where
 mem:=by simp
 obj:=fun i h st b hb=>by
   have e:b=it:=by simpa using hb
   subst e;obtain ⟨o,e,c,d⟩:=st;exact ⟨o,e,fun v z=>by rw[d] at z;cases z⟩
 keep:=fun i h h' st k=>by
   obtain ⟨o,e,r⟩:=st;exact ⟨o,k it (by simp) o e,r⟩
 item:=by
   intro X hP hw hK hc i pins s σ H E I hf st hg;subst hP hw hK;obtain ⟨hH,hi⟩:=hg;obtain ⟨vs,rel,hat⟩:=df4 (I.hok d _ hH) hdat;have hl:kvs.length=vs.length:=rel.length;obtain ⟨f0,f1,f2,f3,f4,f5⟩:=hf it (by simp);have e1:kvs[i]? =some (kvs[i].1,kvs[i].2):=ed4 hi;generalize kvs[i].1=k at e1;generalize kvs[i].2=v at e1;obtain ⟨⟨k',u⟩,e2,e3,_⟩:=cm3 rel e1;have e3:k=k':=e3;subst e3;rw[hl] at st
   refine wpAny_pyNext_dict_item st hat e2 fun key h' hk st' sb=> ?_
   have I1:i5 X pins σ H {s with heap:=h'}:=I.turned (t':=s.toks) (fun b o hb e=>(sb.2 b hb).trans e) f0 f1 f3 f4 f5;obtain ⟨o,e,c,dd⟩:=id st';exact ⟨key,rfl,bv7 (s:={s with heap:=h'}) e c dd (by decide) ⟨kV k,H,I1,db3 hk,⟨rfl,k,v,e1,rfl⟩,by rw[hl];exact st',fun b hb=>(hf b hb).1⟩⟩
 done:=by
   intro X hP hw hK hc i pins s σ H E I hf st hg;subst hP hw hK;obtain ⟨hH,hi⟩:=hg;obtain ⟨vs,rel,hat⟩:=df4 (I.hok d _ hH) hdat;have hl:kvs.length=vs.length:=rel.length;obtain ⟨f0,f1,f2,f3,f4,f5⟩:=hf it (by simp);rw[hl] at st
   exact wpAny_pyNext_dict_end (I.ok.hd hc) st hat (ef0 (by omega)) fun h' eb=>⟨rfl,I.turned (t':=s.toks) (fun b o hb e=>eb b o hb e) f0 f1 f3 f4 f5⟩
 self:=fun _ _ _ _ _ st h=>wpAny_pyIter_keyiter st h
def dw1 (td:TE):TI:=fun σ H R=>td σ H fun x H1=>∃d kvs,x= .ref d/\H1 d=some (.dK kvs)/\∀o,R (Itd d o kvs) (c9 H1 d (.frz o (.dK kvs)))
theorem bm5 {tg l:Expr}{tl:TE}(hl:PE X l tl):PI X tg l (dw1 tl):=by
 intro pins s σ H R I h
 refine r6 (hl pins s σ H _ I h) fun v s1 ⟨x,H1,I1,r1,q1⟩=> ?_
 obtain ⟨d,kvs,e,hH,q⟩:=q1;subst e;cases r1;obtain ⟨_,hsm,vs,rel,o,es,ep,ho,hc,hdat,rr⟩:=(show y9 X.prog X.w H1 s1.heap d (.dK kvs) from I1.hok d _ hH);have hat:s1.heap.DictAt (C8 X.prog X.w) d vs ep:=⟨o,es,ho,hc,hdat,rr⟩;have I2:=I1.freeze hH ho;refine wpAny_pyIter_dict hsm hat ?_;have hlen:kvs.length=vs.length:=rel.length;refine ⟨s1.heap.objs.size,[s1.heap.objs.size],_,_,_,rfl,I2.kept (t':=s1.toks) fun b o e=>Heap.get?_push_of_some _ e,ay9 d _ o kvs es ep hdat,⟨_,Heap.get?_push_size _ rfl,rfl,by rw[hlen];rfl⟩,fun b hb=> ?_,q o⟩
 have e:b=s1.heap.objs.size:=by simpa using hb
 subst e;exact I2.fpOk (ed5 _) (I2.hok.fresh (ed5 _))
theorem au1 {d:Addr}{o:Obj}{kvs:List (q9×V)}{g:TG}{tb:TS}{D:W4}{σ:St}{H:Hp}(Pv:Nat->St->Hp->Prop)(h0:Pv 0 σ H)(hl:∀i σ H,i<=kvs.length->Pv i σ H->H d=some (.frz o (.dK kvs)))
   (hs:∀i k v σ H,kvs[i]? =some (k,v)->Pv i σ H->g (kV k) σ H fun σ2 H2=>tb {D with nx:=Pv (i+1),ct:=Pv (i+1),bk:=D.nx} σ2 H2) (hd:∀σ H,Pv kvs.length σ H->D.nx σ H):
   ∃W:Nat->Nat->St->Hp->Prop,(∃m,W 0 m σ H)/\∀i m σ H,W i m σ H->
    ((Itd d o kvs).stop i H/\D.nx σ H)\/((Itd d o kvs).go i H/\∃N:St->Hp->Prop,(∀σ' H',N σ' H'->∃m',m' < m/\W (i+1) m' σ' H')/\∀x H',(Itd d o kvs).yld i H x H'->g x σ H' fun σ2 H2=>tb {D with nx:=N,ct:=N,bk:=D.nx} σ2 H2):=by
 refine ⟨fun i m σ H=>m=kvs.length - i/\i<=kvs.length/\Pv i σ H,⟨kvs.length,by simp,ef5 _,h0⟩,?_⟩;rintro i m σ H ⟨rfl,hi,p⟩;have q:=hl i σ H hi p
 by_cases hlt:i < kvs.length
 · refine .inr ⟨⟨q,hlt⟩,Pv (i+1),fun σ' H' p'=>⟨kvs.length - (i+1),by omega,rfl,hlt,p'⟩,fun x H' y=> ?_⟩;obtain ⟨e,k,v,y1,y2⟩:=y;subst e y2;exact hs i k v σ _ y1 p
 · have e:i=kvs.length:=by omega
   subst e;exact .inl ⟨⟨q,ed5 _⟩,hd σ H p⟩
theorem ao6 {prog:Program}{w:World}{κ:Type}[DecidableEq κ](knd:KeyKind prog w κ){k:κ}{key:Value}(d:Addr)(hkey:knd.is k key=true)(hd:(d==sysModules)=false)(dflt:Value):
   MeetsIn prog w (Builtin.«dict.setdefault» ⟨[.ref d,key,dflt],[]⟩) (fun _ R s=>∃kvs,s.heap.DictOf knd d kvs/\kvs.length<=sizeLine/\
     (∀v,valueAt kvs k=some v->R (.ok (.ret v)) {s with toks:=s.toks+1})/\
     (valueAt kvs k=none->∀h',h'.DictOf knd d (kvs++[(k,dflt)])->Heap.SameBut d s.heap h'->R (.ok (.ret dflt)) {s with heap:=h',toks:=s.toks+1})):=
 .of_wp fun A R s ⟨kvs,hm,hz,h1,h2⟩=>by
   unfold Builtin.«dict.setdefault»;refine wpAny_bind ?_;unfold Builtin.Dict.keyAndDefault;refine wpAny_bind (wpAny_notOrdered_dict hm.typeIs ?_);show wpAny _ _ (pure (d,key,some dflt)) _ _ s;refine wpAny_pure ?_;show wpAny _ _ (if (d==sysModules)=true then _ else (dictSetDefault d key dflt >>=_)) _ _ s;rw[if_neg (by rw[hd];exact ef3)];obtain ⟨o,es,ep,ho,hc,hdat,hk,hp,hn⟩:=id hm
   have hes:es.size<=sizeLine:=by
     have e1:=hp.length
     have e2:es.toList.length=es.size:=by simp
     omega
   have hf:=hm.mapOf;refine wpAny_bind ?_;unfold dictSetDefault
   try with_reducible refine wpAny_holding ?_
   refine wpAny_bind (knd.pyHash hkey ?_);refine wpAny_bind (wpAny_dictFind_of (s:={s with toks:=s.toks+1}) hkey ho hdat hk ?_)
   have hidx:(es.findIdx? fun e=>knd.is k e.key)=kvs.findIdx? fun kv=>decide (kv.1=k):=by
     rw[<-hp.findIdx k];obtain ⟨l⟩:=es;simp
   have hfb:findBy knd.is es k=valueAt kvs k:=by
     rw[<-hp.find k];obtain ⟨l⟩:=es;simp [findBy]
   rw[findBy_of_findIdx?] at hfb
   cases hi:es.findIdx? fun e=>knd.is k e.key with
   |some i=>
    refine wpAny_bind (wpAny_dictEntries (s:={s with toks:=s.toks+1}) ho hdat ?_)
    cases he:es[i]? with
    |none=>
     exfalso;have:=Array.findIdx?_eq_some_iff_findIdx_eq.mp hi;have hlt:i < es.size:=this.1;rw[ev9 hlt] at he
     exact nomatch he
    |some e=>
     refine wpAny_bind (wpAny_rule (wpAny_pure (wpAny_pure ⟨e.val,rfl,h1 e.val ?_⟩)));rw[hi] at hfb;rw[<-hfb];show Option.map _ es[i]? =_;rw[he];rfl
   |none=>
    have hnot:k∉kvs.map (·.1):=not_mem_of_findIdx_none (hidx▸hi)
    have hnone:valueAt kvs k=none:=by rw[hi] at hfb;exact hfb.symm
    refine wpAny_bind (wpAny_rule (wpAny_bind (wpAny_updateDictKeys (hz:=hes) (s:={s with toks:=s.toks+1}) ho hdat (wpAny_pure (wpAny_pure ⟨dflt,rfl,h2 hnone _ ⟨_,_,ep+1,Heap.get?_update_self _ ho (Obj.isFreed_of_dict (Obj.data_mapDictKeys hdat _)),
      hc.mapDictKeys _,Obj.data_mapDictKeys hdat _,hk.push hkey _,?_,?_⟩ (Heap.SameBut.update ..)⟩)))))
    · have:=hp.append hkey (knd.hash k) dflt;obtain ⟨l⟩:=es
      simpa using this
    · rw[ed8,ek7];refine ⟨hn,by simp,?_⟩;intro a ha b hb;simp only[eh0,ep4,ee3] at hb;subst hb
      exact fun e=>hnot (e▸ha)
def ch9:V->List V->Hp->VK->Prop:=fun x vs H Q=>∃(d:Addr) (kvs:List (q9×V)) (k:q9) (y:V),x= .ref d/\vs=[kV k,y]/\H d=some (.dK kvs)/\kvs.length < sizeLine/\
 (∀v,C3 kvs k=some v->Q v H)/\(C3 kvs k=none->Q y (c9 H d (.dK (kvs++[(k,y)]))))
theorem cs9:MtM X "dict.setdefault" ch9:=by
 intro pins s σ H x vs v us Q I rx rv h;obtain ⟨d,kvs,k,y,rfl,rfl,hH,hlen,q1,q2⟩:=h;cases rx
 cases rv with
 |cons rk rr=>
  cases rr with
  |cons ry rn=>
   cases rn;obtain ⟨z,hd,ws,rel,dd⟩:=df3 I.hok hH
   refine call_meetsIn PySem.F.slot_dict_setdefault dd.typeIs PySem.F.entry_dict_setdefault (PySem.F.args_dict_setdefault_3 _ _ _) (ao6 (C8 X.prog X.w) d (as5 rk) hd _)
     ⟨ws,dd,by rw[<-rel.length];exact z,fun u hu=> ?_,fun hn h' dd' hs=> ?_⟩
   · have:=rel.val k;rw[hu] at this
     cases hv:C3 kvs k with
     |none=>rw[hv] at this;cases this
     |some v=>
      rw[hv] at this;exact ⟨v,H,I.tok _,this,q1 v hv⟩
   · have hvn:C3 kvs k=none:=by
       have:=rel.val k;rw[hn] at this
       cases hv:C3 kvs k with
       |none=>rfl
       |some v=>rw[hv] at this;cases this
     have he:∃q,h'.get? d=some q:=let ⟨q,_,_,hq,_⟩:=dd';⟨q,hq⟩;have rel':=rel.put k ry
     have hany:¬(ws.any fun kv=>decide (kv.1=k))=true:=by
       rw[List.any_eq_true];rintro ⟨kv,hkv,hek⟩;unfold valueAt at hn
       cases hf:ws.find? (fun kv=>decide (kv.1=k)) with
       |none=>exact List.find?_eq_none.mp hf kv hkv hek
       |some y=>rw[hf] at hn;cases hn
     rw[as4 y hvn,stored,if_neg hany] at rel';exact ⟨y,_,bb4 I (by rw[hH];exact True.intro) hs he (cq4 (by rw[ed6];exact hlen) hd rel' dd'),ry,q2 hvn⟩
theorem ct0 {o e f:Expr}{to:TE}{t:TA}{apos pos:Pos}(ho:PE X o to)(ha:PA X [e,f] t)
   (hbase:attributeBase o "setdefault" X.env (eval o X.env)=eval o X.env:=by rfl)
   (hfew:((backTo pos (starEach [e,f] X.env)).all (fun x=> !x.1)&&(backToKw pos (keywordEach [] X.env)).all (fun x=>x.1.isSome)
     &&decide ([e,f].length+([]:List Keyword).length+(if ([]:List Keyword).isEmpty then 0 else 1) < 30))=true:=by rfl)
   (hline:(apos.endLine==pos.line)=true:=by rfl) (hs:starEach [e,f] X.env=(false,eval e X.env)::starEach [f] X.env:=by rfl) (hplain:(backTo pos (starEach [f] X.env)).any (·.1)=false:=by rfl):
   PE X (.Call (.Attribute o "setdefault" apos) [e,f] [] pos) (tBM X.K "dict" ch9 to t):=
 bi1 PySem.F.plainAttrs_dict PySem.F.slot_dict_setdefault PySem.F.type_dict_setdefault cs9 ho ha hbase hfew hline hs hplain
theorem ct1:bootBuiltins "int"=some (.type "int"):=by decide+kernel
theorem ct2:U7 X (.type "int") (fun xs H Q=>∃b,xs=[.bl b]/\Q (.int (if b then 1 else 0)) H):=by
 intro pins s σ H xs us Q I r h;obtain ⟨b,rfl,q⟩:=h;obtain ⟨u,rfl,rx⟩:=aj3 r;cases rx;exact call_int_bool ⟨.int _,H,I.tok _,⟨_,rfl⟩,q⟩
theorem aq2 {e:Expr}{t:TA}{p pos:Pos}(hm:X.mg "int"=none)(ha:PA X [e] t)(hg:Gl X "int":=by rfl)(he:starEach [e] X.env=(false,eval e X.env)::starEach [] X.env:=by rfl):
   PE X (.Call (.Name "int" p) [e] [] pos) (tCB (fun xs H Q=>∃b,xs=[.bl b]/\Q (.int (if b then 1 else 0)) H) t):=
 an6 ct2 hg hm ct1 ha (by decide) (by decide) he rfl
end
end L2
namespace Mth
def x8 (f:Nat->Nat):List Nat->Nat
 |[]=>1
 |x::xs=>f x*x8 f xs
theorem az0 (f:Nat->Nat):∀xs ys,x8 f (xs++ys)=x8 f xs*x8 f ys
 |[],ys=>by rw[List.nil_append];exact (ey0 _).symm
 |x::xs,ys=>by
  show f x*x8 f (xs++ys)=f x*x8 f xs*x8 f ys;rw[az0 f xs ys,ek9]
theorem au2 (f:Nat->Nat)(xs:List Nat)(x:Nat):x8 f (xs++[x])=x8 f xs*f x:=by
 rw[az0];show x8 f xs*(f x*1)=_;rw[em5]
theorem cm4 {f:Nat->Nat}{xs ys:List Nat}(h:xs.Perm ys):x8 f xs=x8 f ys:=by
 induction h with
 |nil=>rfl
 |cons x _ ih=>show f x*x8 f _=f x*x8 f _;rw[ih]
 |swap x y l=>show f y*(f x*x8 f l)=f x*(f y*x8 f l);rw[<-ek9,ej4 (f y),ek9]
 |trans _ _ i1 i2=>rw[i1,i2]
theorem bj5 {f:Nat->Nat}:∀{us:List Nat},(∀u∈us,f u=1)->x8 f us=1
 |[],_=>rfl
 |u::us,h=>by
  show f u*x8 f us=1;rw[h u ed7,bj5 fun x hx=>h x (ee0 _ hx)]
theorem br8 {f:Nat->Nat}:∀{ks us:List Nat},ks.Nodup->us.Nodup->(∀k∈ks,k∈us)->(∀u∈us,u∉ks->f u=1)->x8 f ks=x8 f us
 |[],us,_,_,_,h=>(bj5 fun u hu=>h u hu (by simp)).symm
 |k::ks,us,nk,nu,sub,h=>by
  obtain ⟨nk1,nk2⟩:=ei5.mp nk;have hk:k∈us:=sub k ed7;rw[cm4 (List.perm_cons_erase hk)];show f k*x8 f ks=f k*x8 f (us.erase k)
  have ih:x8 f ks=x8 f (us.erase k):=by
    refine br8 nk2 (nu.erase k) (fun x hx=> ?_) fun u hu hn=> ?_
    · have hxk:x≠k:=fun e=>nk1 (by rw[<-e];exact hx)
      exact (List.mem_erase_of_ne hxk).mpr (sub x (ee0 _ hx))
    · obtain ⟨h1,h2⟩:=(List.Nodup.mem_erase_iff nu).mp hu
      refine h u h2 fun z=> ?_
      rcases ee8.mp z with e|e
      · exact h1 e
      · exact hn e
  rw[ih]
def w6 (rs:List (List Int))(l:Nat):Nat:=rs.countP fun r=>decide (r.length=l)
theorem br9 (rs:List (List Int))(r:List Int)(l:Nat):w6 (rs++[r]) l=w6 rs l+if r.length=l then 1 else 0:=by
 unfold w6;rw[List.countP_append,List.countP_singleton]
 by_cases h:r.length=l<;>simp [h]
theorem ci0 {rs:List (List Int)}{l:Nat}(h:w6 rs l≠0):∃r∈rs,r.length=l:=by
 unfold w6 at h;obtain ⟨r,hr,e⟩:=List.countP_pos_iff.mp (Nat.pos_of_ne_zero h);exact ⟨r,hr,of_decide_eq_true e⟩
end Mth
namespace Mth
structure by6 (l m d:Nat):Prop where
 parts:d∣m
 rest:eh9 l (m/d)=1
 least:∀e,e∣m->eh9 l (m/e)=1->d∣e
theorem by6.pos {l m d:Nat}(x:by6 l m d)(hm:0 < m):0 < d:=by
 rcases ep8 d with z|z
 · have:=x.parts;rw[z] at this;have:=Nat.zero_dvd.mp this;omega
 · exact z
structure ao7 (l m d:Nat):Prop where
 pos:0 < d
 parts:d∣m
 least:∀e,e∣m->eh9 l (m/e)=1->d∣e
theorem ao7.start (l m:Nat):ao7 l m 1:=⟨by decide,Nat.one_dvd m,fun e _ _=>Nat.one_dvd e⟩
theorem ao7.step {l m d:Nat}(hm:0 < m)(u:ao7 l m d):ao7 l m (d*eh9 l (m/d)):=by
 obtain ⟨k,rfl⟩:=u.parts;have dp:=u.pos;rw[eo1 k dp]
 have kp:0 < k:=Nat.pos_of_mul_pos_left hm|>fun h=>by
   rcases ep8 k with z|z
   · rw[z,em3] at hm;omega
   · exact z
 refine ⟨ek8 dp (ew4 _ kp),Nat.mul_dvd_mul_left d (es7 l k),fun e he hr=> ?_⟩;obtain ⟨f,rfl⟩:=u.least e he hr;have hfk:f∣k:=Nat.dvd_of_mul_dvd_mul_left dp he;obtain ⟨g,rfl⟩:=hfk
 have fp:0 < f:=by
   rcases ep8 f with z|z
   · rw[z,ei3] at kp;omega
   · exact z
 have e1:d*(f*g)/(d*f)=g:=by
   rw[<-ek9,eo1 g (ek8 dp fp)]
 rw[e1] at hr;refine Nat.mul_dvd_mul_left d ?_
 have c:ey1 (eh9 l (f*g)) g:=by
   have:ey1 l g:=hr;exact ey1.coprime_dvd_left (Nat.gcd_dvd_left l (f*g)) this
 exact c.dvd_of_dvd_mul_right (es7 l (f*g))
theorem ao7.done {l m d:Nat}(u:ao7 l m d)(h:eh9 l (m/d)=1):by6 l m d:=⟨u.parts,h,u.least⟩
theorem ao7.more {l m d:Nat}(hm:0 < m)(u:ao7 l m d)(h:eh9 l (m/d)≠1):d < d*eh9 l (m/d)/\d*eh9 l (m/d)<=m:=by
 have kp:0 < m/d:=Nat.div_pos (Nat.le_of_dvd hm u.parts) u.pos;have gp:0 < eh9 l (m/d):=ew4 _ kp;have dp:=u.pos;refine ⟨?_,Nat.le_of_dvd hm (u.step hm).parts⟩
 have:2<=eh9 l (m/d):=by omega
 calc d < d*2:=by omega
   _<=d*eh9 l (m/d):=eu1 d this
def P9 (d l k lane step:Nat):Nat:=lane+d*((step*k)%l)
theorem by7 {d l x lane:Nat}(hl:lane < d)(h:0 < l):(lane+d*x)%(d*l)=lane+d*(x%l):=by
 have e:lane+d*x=(lane+d*(x%l))+(d*l)*(x/l):=by
   have:=Nat.mod_add_div x l
   calc lane+d*x=lane+d*(x%l+l*(x/l)):=by rw[this]
     _=(lane+d*(x%l))+(d*l)*(x/l):=by rw[ev1,<-ek9,er6]
 rw[e,er7];refine el2 ?_;have hx:x%l+1<=l:=en6 _ h
 calc lane+d*(x%l) < d+d*(x%l):=by omega
   _=d*(x%l+1):=by rw[ev1,em5,em1]
   _<=d*l:=eu1 d hx
theorem ci1 {d l k lane step:Nat}(hl:lane < d)(h:0 < l):(lane+step*(d*k))%(d*l)=P9 d l k lane step:=by
 have e:step*(d*k)=d*(step*k):=by rw[<-ek9,ej4 step d,ek9]
 rw[e,by7 hl h];rfl
theorem bb6 {d l k lane step:Nat}(hl:lane < d)(h:0 < l):P9 d l k lane step < d*l:=by
 rw[<-ci1 (k:=k) hl h];exact en6 _ (ek8 (by omega) h)
theorem db4 {d l k a b x y:Nat}(ha:a < d)(hb:b < d)(hx:x < l)(hy:y < l)(c:eh9 l k=1)(h:P9 d l k a x=P9 d l k b y):a=b/\x=y:=by
 unfold P9 at h
 have dp:0 < d:=by omega
 have h1:a=b:=by
   have e1:(a+d*((x*k)%l))%d=a:=by rw[er7];exact el2 ha
   have e2:(b+d*((y*k)%l))%d=b:=by rw[er7];exact el2 hb
   rw[<-e1,<-e2,h]
 subst h1;have h2:(x*k)%l=(y*k)%l:=eo9 dp (by omega);refine ⟨rfl,?_⟩
 have key:∀u v,u<=v->v < l->(u*k)%l=(v*k)%l->u=v:=fun u v huv hv e=>by
   have d1:l∣v*k - u*k:=Nat.dvd_of_mod_eq_zero (Nat.sub_mod_eq_zero_of_mod_eq e.symm);rw[<-Nat.sub_mul] at d1;have d2:l∣v - u:=ey1.dvd_of_dvd_mul_right c d1
   rcases ep8 (v - u) with z|z
   · omega
   · have:=Nat.le_of_dvd z d2;omega
 rcases Nat.le_total x y with z|z
 · exact key x y z hy h2
 · exact (key y x z hx h2.symm).symm
theorem ct3 {d l k lane step:Nat}(hl:lane < d)(h:0 < l):(P9 d l k lane step+d*k)%(d*l)=P9 d l k lane ((step+1)%l):=by
 have e1:P9 d l k lane step+d*k=lane+d*((step*k)%l+k):=by
   unfold P9;rw[ev1,er6]
 rw[e1,by7 hl h];unfold P9
 congr 2
 rw[Nat.mod_add_mod,<-em0,Nat.mul_mod ((step+1)%l),Nat.mod_mod,<-Nat.mul_mod]
end Mth
namespace Mth
theorem cf5 {r:List Int}(h1:∀x,In r x->In r (nx r x))(h2:∀x,In r x->∃L,0 < L/\it r L x=x):E6 r:=by
 refine cs5 (fun x a b=>h1 x ⟨a,b⟩) fun x y x0 x1 y0 y1 e=> ?_
 obtain ⟨L,L0,hL⟩:=h2 x ⟨x0,x1⟩;obtain ⟨M,M0,hM⟩:=h2 y ⟨y0,y1⟩;have a1:=bj2 hL M;have a2:=bj2 hM L;rw[ej4] at a2;have hp:0 < L*M:=ek8 L0 M0;obtain ⟨N,hN⟩:∃N,L*M=N+1:=⟨L*M - 1,by omega⟩;rw[hN,di1] at a1 a2;rw[<-a1,<-a2,e]
structure S9 (r J:List Int):Prop where
 ne:J≠[]
 nd:J.Nodup
 lo:∀x∈J,0<=x
 on:∀j,j < J.length->J0 r (J.getD j 0)=some (J.getD ((j+1)%J.length) 0)
theorem S9.in_ {r J:List Int}(h:S9 r J){j:Nat}(hj:j < J.length):In r (J.getD j 0):=by
 have:=h.on j hj;unfold J0 at this;have h1:=(ed3.mp this).1;have h0:=h.lo (J.getD j 0) (by rw[O7 hj];exact eg9 hj);exact ⟨h0,by omega⟩
theorem S9.nx {r J:List Int}(h:S9 r J){j:Nat}(hj:j < J.length):nx r (J.getD j 0)=J.getD ((j+1)%J.length) 0:=by
 have e:=cs4 (h.in_ hj);rw[h.on j hj] at e;exact (Option.some.inj e).symm
theorem S9.it {r J:List Int}(h:S9 r J){j:Nat}(hj:j < J.length):∀i,it r i (J.getD j 0)=J.getD ((j+i)%J.length) 0
 |0=>by rw[el0,el2 hj];rfl
 |i+1=>by
  have hm:(j+i)%J.length < J.length:=en6 _ (by omega);show Mth.nx r (Mth.it r i (J.getD j 0))=_;rw[h.it hj i,h.nx hm,Nat.mod_add_mod,er6]
theorem S9.per {r J:List Int}(h:S9 r J){j:Nat}(hj:j < J.length):S8 r (J.getD j 0) J.length:=by
 refine ⟨by omega,?_,fun i i0 i1 e=> ?_⟩
 · rw[h.it hj,Nat.add_mod_right,el2 hj]
 · rw[h.it hj] at e;have hm:(j+i)%J.length < J.length:=en6 _ (by omega)
   have hne:(j+i)%J.length≠j:=fun z=>by
     rcases ex1 (j+i) J.length with y|y
     · rw[el2 y] at z;omega
     · have e2:(j+i)%J.length=j+i - J.length:=by
         rw[Nat.mod_eq_sub_mod y,el2 (by omega)]
       omega
   exact V3 h.nd hm hj hne e
def Z1 (d l k:Nat):List Int:=(ei1 (d*l)).map fun i=>((P9 d l k (i/l) (i%l):Nat):Int)
theorem al3 (d l k:Nat):(Z1 d l k).length=d*l:=by unfold Z1;rw[ed2,eh2]
theorem bm6 {d l i:Nat}(h:i < d*l):i/l < d:=by
 refine Nat.div_lt_of_lt_mul ?_;rw[ej4];exact h
theorem au3 {d l k:Nat}(hl:0 < l)(c:eh9 l k=1):E6 (Z1 d l k):=by
 refine ⟨?_,fun x hx=> ?_,fun x hx=> ?_⟩
 · unfold Z1;rw[ef9,em6];refine List.Pairwise.imp_of_mem ?_ (ef9.mp (List.nodup_range (n:=d*l)));intro a b ha hb hne e;have ha:=ei2.mp ha;have hb:=ei2.mp hb
   have e':P9 d l k (a/l) (a%l)=P9 d l k (b/l) (b%l):=by omega
   obtain ⟨h1,h2⟩:=db4 (bm6 ha) (bm6 hb) (en6 _ hl) (en6 _ hl) c e';exact hne (by rw[<-ex5 a l,<-ex5 b l,h1,h2])
 · obtain ⟨i,_,rfl⟩:=ee5.mp hx;omega
 · obtain ⟨i,hi,rfl⟩:=ee5.mp hx;rw[al3];have:=bb6 (k:=k) (step:=i%l) (bm6 (ei2.mp hi)) hl;omega
theorem bf3 {l:Nat}(hl:0 < l):∀{Rs:List (List Int)},(∀r∈Rs,r.length=l)->Rs.flatten.length=Rs.length*l/\∀a b,a < Rs.length->b < l->Rs.flatten[a*l+b]? =(Rs.getD a [])[b]?
 |[],_=>⟨by simp,fun a b h=>by simp at h⟩
 |r::Rs,h=>by
  have hr:=h r ed7
  obtain ⟨i1,i2⟩:=bf3 hl (Rs:=Rs) fun q hq=>h q (ee0 _ hq)
  refine ⟨by rw[eh4,ed6,i1,hr,eg3,em0,em1],fun a b ha hb=> ?_⟩;rw[eh4]
  cases a with
  |zero=>
   rw[ei3,eo0,ef8 (by omega)];rfl
  |succ a=>
   rw[em0,ef6 (by omega),hr]
   have e:a*l+l+b - l=a*l+b:=by omega
   rw[e,i2 a b (by simp only[eg3] at ha;omega) hb];rfl
structure M4 (l k:Nat)(Rs:List (List Int))(J:List Int):Prop where
 len:J.length=Rs.length*l
 at_:(Z1 Rs.length l k).map (J0 J)=Rs.flatten.map some
theorem M4.perm {l k:Nat}{Rs:List (List Int)}{J:List Int}(hl:0 < l)(c:eh9 l k=1)(h:M4 l k Rs J):J.Perm Rs.flatten:=
 bi8 (au3 hl c) (by rw[al3];exact h.len) h.at_
theorem M4.get {l k:Nat}{Rs:List (List Int)}{J:List Int}(hl:0 < l)(hr:∀r∈Rs,r.length=l)(h:M4 l k Rs J){a b:Nat}(ha:a < Rs.length)(hb:b < l):J.getD (P9 Rs.length l k a b) 0=(Rs.getD a []).getD b 0:=by
 have hi:a*l+b < Rs.length*l:=by
   calc a*l+b < a*l+l:=by omega
     _=(a+1)*l:=by rw[em0]
     _<=Rs.length*l:=ej3 l ha
 have e:=congrArg (fun z:List (Option Int)=>z[a*l+b]?) h.at_;unfold Z1 at e;rw[ed9,ed9,ek0 hi,ed9,(bf3 hl hr).2 a b ha hb] at e
 have d1:(a*l+b)/l=a:=by
   rw[ej4,Nat.mul_add_div hl,Nat.div_eq_of_lt hb,el0]
 have d2:(a*l+b)%l=b:=by
   rw[ej4,Nat.mul_add_mod,el2 hb]
 simp only[eq3,d1,d2] at e
 have hra:(Rs.getD a []).length=l:=by
   refine hr _ ?_;rw[ee4,ed4 ha];exact eg9 ha
 rw[ed4 (by omega)] at e;have e:=Option.some.inj e;have hp:=bb6 (k:=k) (step:=b) ha hl;rw[<-h.len] at hp;unfold J0 at e;rw[ej1,ed4 hp] at e;rw[ee4,ed4 hp,ee4,ed4 (show b < (Rs.getD a []).length by omega)]
 simpa using e
def by8 (p:List Int)(m:Nat)(J:List Int)(x:Int):Prop:=
 ∃(l k:Nat) (Rs:List (List Int)) (a b:Nat) (y:Int),0 < l/\m=Rs.length*k/\eh9 l k=1/\(∀r∈Rs,r.length=l)/\M4 l k Rs J/\a < Rs.length/\b < l/\In p y/\S8 p y l/\Rs.getD a []=o6 p y l/\x=it p b y
theorem di3 {p r:List Int}{m:Nat}{qs:List (List Int)}(tp:E6 p)(hlen:r.length=p.length)(hq:∀J∈qs,S9 r J)(hx:∀x,In p x->∃J∈qs,by8 p m J x):E6 r/\ac8 r (m:Int) p:=by
 have at_:∀x,In p x->∃J∈qs,∃j,j < J.length/\x=J.getD j 0/\J.getD ((j+m)%J.length) 0=nx p x:=fun x hxi=>by
   obtain ⟨J,hJ,l,k,Rs,a,b,y,l0,rfl,c,hr,hj,ha,hb,hy,py,er,rfl⟩:=hx x hxi;refine ⟨J,hJ,P9 Rs.length l k a b,by rw[hj.len];exact bb6 ha l0,?_,?_⟩
   · rw[hj.get l0 hr ha hb,er,Y4 hb]
   · rw[hj.len,ct3 ha l0,hj.get l0 hr ha (en6 _ l0),er,Y4 (en6 _ l0),bj3 py.back];rfl
 have inr:∀x,In r x↔In p x:=fun x=>by unfold In;rw[hlen]
 have tr:E6 r:=by
   refine cf5 (fun x h=> ?_) fun x h=> ?_
   · obtain ⟨J,hJ,j,hj,rfl,_⟩:=at_ x ((inr x).mp h);rw[(hq J hJ).nx hj];exact (hq J hJ).in_ (en6 _ (by omega))
   · obtain ⟨J,hJ,j,hj,rfl,_⟩:=at_ x ((inr x).mp h);have:=(hq J hJ).per hj;exact ⟨_,this.pos,this.back⟩
 refine ⟨tr,dq5 tr hlen.symm fun x h L hL=> ?_⟩;obtain ⟨J,hJ,j,hj,rfl,e⟩:=at_ x ((inr _).mp h);have hp:=(hq J hJ).per hj;have:L=J.length:=hL.uniq hp;subst this;exact ⟨m,by simp,by rw[(hq J hJ).it hj,e]⟩
end Mth
namespace Mth
theorem by9 {p:List Int}(t:E6 p):∀i,i<=p.length->J5 p i (C5 p i)
 |0,_=>at5 p
 |i+1,h=>by
  have ih:=by9 t i (by omega);show J5 p (i+1) (if (i:Int)∈(C5 p i).flatten then C5 p i else C5 p i++[o6 p i (ag7 p i)]);have hx:In p (i:Int):=⟨by omega,by omega⟩
  by_cases hi:(i:Int)∈(C5 p i).flatten
  · rw[if_pos hi];exact at6 ih hi
  · rw[if_neg hi];obtain ⟨L,hL⟩:=by1 t hx;rw[bf1 hL];exact at8 t ih hx hL hi
theorem bf4 {p:List Int}(t:E6 p):J5 p p.length (C5 p p.length):=by9 t _ (ed5 _)
end Mth
namespace Mth
def O4 (rs:List (List Int))(l:Nat):List (List Int):=rs.filter fun r=>decide (r.length=l)
theorem bm7 (rs:List (List Int))(l:Nat):(O4 rs l).length=w6 rs l:=by unfold O4 w6;rw[eu2]
theorem M4.uniq {l k:Nat}{Rs:List (List Int)}{J J':List Int}(hl:0 < l)(c:eh9 l k=1)(h:M4 l k Rs J)(h':M4 l k Rs J'):J=J':=by
 have e:=h.at_.trans h'.at_.symm
 refine ej2 fun i=> ?_
 by_cases hi:i < Rs.length*l
 · have ip:=au3 (d:=Rs.length) hl c;have hm:(i:Int)∈Z1 Rs.length l k:=ip.perm.mem_iff.mpr (V1.mpr ⟨by omega,by rw[al3];omega⟩);obtain ⟨n,hn⟩:=eg6.mp hm;have e2:=congrArg (fun z:List (Option Int)=>z[n]?) e;simp only[ed9,hn,eq3] at e2;have e3:=Option.some.inj e2;unfold J0 at e3;rw[ej1] at e3;exact e3
 · rw[ef0 (by rw[h.len];omega),ef0 (by rw[h'.len];omega)]
end Mth
namespace Mth
theorem dq7 {n c:Int}(hn:1<=n)(hc:0<=c):∃mx,(if (if n < c then n else c) > 1 then (if n < c then n else c) else (1:Int))=mx/\1<=mx/\mx<=n:=by
 refine ⟨_,rfl,?_⟩
 split<;>split at* <;>omega
end Mth
namespace L2
open PySem PySem.Spec PyProof.Rows
def KI (kvs:List (q9×V))(ns:List Int):Prop:=kvs.map (·.1)=ns.map Sum.inl
theorem bj6:∀{kvs:List (q9×V)} {ns:List Int},KI kvs ns->∀k:Int,k∈ns↔∃v,C3 kvs (Sum.inl k:q9)=some v
 |[],[],_,k=>⟨fun h=>by simp at h,fun ⟨v,h⟩=>by cases h⟩
 |[],n::ns,h,_=>by unfold KI at h;simp at h
 |p::kvs,[],h,_=>by unfold KI at h;simp at h
 |p::kvs,n::ns,h,k=>by
  unfold KI at h;rw[eh0,eh0] at h
  injection h with h1 h2
  by_cases e:n=k
  · have:p.1=(Sum.inl k:q9):=by rw[h1,e]
    rw[L5 this];exact ⟨fun _=>⟨_,rfl⟩,fun _=>by rw[e];exact ed7⟩
  · have:¬p.1=(Sum.inl k:q9):=fun z=>e (by rw[h1] at z;exact Sum.inl.inj z)
    rw[K4 this];constructor
    · intro hm
      rcases ee8.mp hm with z|z
      · exact absurd z.symm e
      · exact (bj6 (show KI kvs ns from h2) k).mp z
    · intro hv;exact ee0 _ ((bj6 (show KI kvs ns from h2) k).mpr hv)
theorem bm8 {kvs:List (q9×V)}{ns:List Int}(h:KI kvs ns){k:Int}(hk:k∉ns):C3 kvs (Sum.inl k:q9)=none:=by
 cases e:C3 kvs (Sum.inl k:q9) with
 |none=>rfl
 |some v=>exact absurd ((bj6 h k).mpr ⟨v,e⟩) hk
theorem dq8 {kvs:List (q9×V)}{ns:List Int}(h:KI kvs ns){k:Int}(hk:k∉ns)(v:V):KI (S7 kvs (Sum.inl k:q9) v) (ns++[k]):=by
 rw[as4 v (bm8 h hk)];unfold KI at*;rw[ed8,ed8,h];rfl
theorem dq9 {kvs:List (q9×V)}{ns:List Int}(h:KI kvs ns){k:Int}(hk:k∈ns)(v:V):KI (S7 kvs (Sum.inl k:q9) v) ns:=by
 obtain ⟨x,hx⟩:=(bj6 h k).mp hk;unfold S7;rw[ae4,hx,if_pos (show (some x).isSome=true from rfl)];unfold KI at*;rw[<-h,ej5]
 refine ej9 fun p _=> ?_
 show (if p.1=(Sum.inl k:q9) then (p.1,v) else p).1=p.1
 split<;>rfl
def ct4 (ns:List Int):TE:=fun _ H Q=>ns.length<=sizeLine/\∀p,H p=none->Q (.ref p) (c9 H p (.tup (ns.map V.int)))
theorem db5 {X:Cx}{x1}{pos:Pos}{es:List Expr}(ns:List Int)(h:aq1 es=some ns):PE X (.Tuple es x1 pos) (ct4 ns):=fun pins s σ H Q I h'=>ah1 (by3 es ns h) pins s σ H Q I (by
 show (ns.map V.int).length<=sizeLine/\_
 rw[ed2];exact h')
end L2
namespace L2
open PySem PySem.Spec PyProof.Rows
structure XPS (X:Cx)(st:Stmt)(t:TS):Prop where
 h:PS X st t
structure dr1 (X:Cx)(st:List Stmt)(t:TS):Prop where
 h:PSs X st t
section
variable {X:Cx} {st:Stmt} {rest:List Stmt} {t u:TS}
theorem db6 {tg:Expr}{es:List Expr}{x1}{tpos pos:Pos}{body:List Stmt}{g:TG}{tb:TS}(ns:List Int)(h:aq1 es=some ns)(hc:X.calm=true)(hp:PassesOwn (model X.prog X.w) X.A X.env X.xe)(hg:PG X tg g)(hb:PSs X body tb)
 (hs:∀x,foldedSetIterable (.Tuple es x1 tpos) X.env x=pure x:=by intro _;rfl):XPS X (.For tg (.Tuple es x1 tpos) body [] pos) (do5 (do3 X.K (ct4 ns)) g tb):=⟨q0 hp hc (do4 (db5 ns h)) hg hb hs⟩
theorem ci2 (h1:XPS X st t)(h2:PSs X rest u):dr1 X (st::rest) (t9 t u):=⟨c8 h1.h h2⟩
theorem ct5 (h1:PS X st t)(h2:dr1 X rest u):PSs X (st::rest) (t9 t u):=c8 h1 h2.h
end
end L2
namespace L2
open PySem PySem.Spec PyProof.Rows
theorem K9.hide {P:Program}{w:World}{H:Hp}{h:Heap}{as:List Addr}(x:K9 P w H h)(hn:∀b∈as,H b=none):K9 P w H (PySem.W.hideAll h as):=fun a o e=>
 (x a o e).stay (fun b u hb q=>PySem.W.hideAll_get _ q fun hm=>by
   have:=hn b hm
   rcases hb with rfl|hb
   · rw[e] at this;cases this
   · rw[hb] at this;cases this) (fun _ q=>q) fun _ _ q=>q
def CX1 (P:Program)(w:World):CXT:=fun outer H s E e s'=>
 ∃(a t C:Addr) (vs:List Value) (B:Heap) (H':Hp),e= .ref a/\s'.os=s.os/\AllBare s'.gens/\Un (J7 outer) [] H H' s.heap s'.heap/\K9 P w H' B/\
  (∀b o,s.heap.get? b=some o->H b=none->b∉J7 outer->B.get? b=some o)/\(∀b o,s.heap.get? b=some o->b∉J7 outer->∃o',B.get? b=some o')/\
  Heap.FlyingW B outer a (.ref C) (.ref t) s'.heap/\s'.heap.TupAt t vs/\B.get? t=none/\E (.ref C) none H'
theorem bz0 {fs:List Addr}{H0 H1:Hp}{h0 h1 h2 B:Heap}(u:Un fs [] H0 H1 h0 h1)(kb:∀b o,h0.get? b=some o->H0 b=none->b∉fs->B.get? b=some o)(tb:∀b o,h0.get? b=some o->b∉fs->∃o',B.get? b=some o')
   (st:B.StaysIn h2) (up:h1.UpToSlots h2) (fr:∀b∈fs,∀o,h1.get? b=some o->∀vs,o.data≠.fields vs):Un fs [] H0 H1 h0 h2 where
 keep:=fun b o q n hb _=>st b o (kb b o q n hb)
 slot:=fun b o q n hb hx=>by
   obtain ⟨sl,e⟩:=u.slot b o q n hb hx;obtain ⟨sl2,e2⟩:=up b _ e (fr b hb _ e);exact ⟨sl2,e2⟩
 free:=u.free
 there:=fun b o q hx=>by
   by_cases hb:b∈fs
   · obtain ⟨o',e⟩:=u.there b o q hx;obtain ⟨sl,e2⟩:=up b o' e (fr b hb _ e);exact ⟨_,e2⟩
   · obtain ⟨o',e⟩:=tb b o q hb;exact ⟨o',st b o' e⟩
 tups:=u.tups
 frzs:=u.frzs
 tbls:=u.tbls
def ct6 (X:Cx)(E:XK):Prop:=∀(pins:List (Addr×Obj)) (σ:St) (H:Hp) (s:Shared) (h':Heap) (e C:Addr) (vs:List Value),i5 X pins σ H s->Heap.MadeExcOf s.heap h' e (.ref C) vs->E (.ref C) none H->X.xe (.ref e) {s with heap:=h'}
theorem bz1 {X:Cx}{pins:List (Addr×Obj)}{σ:St}{H:Hp}{s:Shared}(I:i5 X pins σ H s):∀b∈J7 X.stack,∀o,s.heap.get? b=some o->∀vs,o.data≠.fields vs:=fun b hb o ho=>by
 obtain ⟨_,o',ho',hn⟩:=I.stack.mem hb;rw[ho] at ho';cases ho';exact hn
section
variable {P:Program} {w:World} {K:PySem.W.Frag} {mg:Str->Option Value} {base:Heap} {N:List Str} {qual:Str} {scope:Scope} {f:Addr} {cd:Value} {A:Around} {outer:List Env} {s₀:Shared} {H₀:Hp} {E E':XK}
theorem ah6 {pins:List (Addr×Obj)}{σ:St}{H:Hp}{s:Shared}(I:i5 (t6 (CX1 P w) P w K mg base N qual scope f cd A outer s₀ H₀ E) pins σ H s){b:Addr}{o:Obj}(h:s₀.heap.get? b=some o)(hb:b∉J7 outer):
   b∉J7 (envOfC qual scope s₀.heap.objs.size f cd::outer):=fun hm=>by
 unfold J7 at hm hb;rw[em7] at hm;have hf:(envOfC qual scope s₀.heap.objs.size f cd).frame=some s₀.heap.objs.size:=rfl;rw[hf] at hm
 rcases ee8.mp hm with z|z
 · have:=Heap.lt_size h;rw[z] at this;exact absurd this (en4 _)
 · exact hb z
theorem ab1:ct6 (t6 (CX1 P w) P w K mg base N qual scope f cd A outer s₀ H₀ E) E:=by
 intro pins σ H s h' e C vs I hx hE;show wpAny (model P w) _ (leaving _ (.ref e)) _ _ _
 have hin:∀env∈(envOfC qual scope s₀.heap.objs.size f cd::outer),∀b,env.frame=some b->b∈J7 (envOfC qual scope s₀.heap.objs.size f cd::outer):=fun env he b hb=>eu5.mpr ⟨env,he,hb⟩
 have hst:s.heap.FunFrames base (envOfC qual scope s₀.heap.objs.size f cd::outer):=I.stack;have hsf:∀b∈J7 (envOfC qual scope s₀.heap.objs.size f cd::outer),H b=none:=I.stkFree;have hub:Un (J7 outer) [] H₀ H s₀.heap s.heap:=I.base
 refine wpAny_leaves_madeW (base:=PySem.W.hideAll s.heap (J7 (envOfC qual scope s₀.heap.objs.size f cd::outer))) (h:=s.heap) I.ok.frames rfl (fun b o q=>PySem.W.of_hideAll _ q) (PySem.W.funFrames_hide hst hin) hx fun h2 t fl tup tn up=> ?_
 have up':s.heap.UpToSlots h2:=(Heap.UpToSlots.of_keeps hx.keeps).trans up
 have kb:∀b o,s₀.heap.get? b=some o->H₀ b=none->b∉J7 outer->(PySem.W.hideAll s.heap (J7 (envOfC qual scope s₀.heap.objs.size f cd::outer))).get? b=some o:=fun b o q n hb=>
   PySem.W.hideAll_get _ (hub.keep b o q n hb (by simp)) (ah6 I q hb)
 have tb:∀b o,s₀.heap.get? b=some o->b∉J7 outer->∃o',(PySem.W.hideAll s.heap (J7 (envOfC qual scope s₀.heap.objs.size f cd::outer))).get? b=some o':=fun b o q hb=>by
   obtain ⟨o',e'⟩:=hub.there b o q (by simp);exact ⟨o',PySem.W.hideAll_get _ e' (ah6 I q hb)⟩
 refine ⟨e,t,C,vs,_,H,rfl,I.os,I.bare,bz0 hub kb tb fl.1 up' (fun b hb o ho=> ?_),I.hok.hide hsf,kb,tb,fl,tup,tn,hE⟩;exact bz1 I b (by show b∈J7 (envOfC qual scope s₀.heap.objs.size f cd::outer);unfold J7 at hb ⊢;rw[em7];exact ee0 _ hb) o ho
theorem O5 (imp:∀c d H,E c d H->E' c d H):ay1 (CX1 P w) (t6 (CX1 P w) P w K mg base N qual scope f cd A outer s₀ H₀ E') E:=by
 intro pins σ H s e s' I h;obtain ⟨a,t,C,vs,B,H',rfl,os,bare,un,hok,kb,tb,fl,tup,tn,hE⟩:=h;show wpAny (model P w) _ (leaving _ (.ref a)) _ _ _;have hub:Un (J7 outer) [] H₀ H s₀.heap s.heap:=I.base;have un':Un (J7 (envOfC qual scope s₀.heap.objs.size f cd::outer)) [] H H' s.heap s'.heap:=un
 have sub:∀b,b∈J7 outer->b∈J7 (envOfC qual scope s₀.heap.objs.size f cd::outer):=fun b hb=>by
   unfold J7 at hb ⊢;rw[em7];exact ee0 _ hb
 refine wpAny_leaves_onW (L:=s₀.heap.objs.size) I.ok.frames rfl fl fun h2 fl2 up=> ?_
 have kb':∀b o,s₀.heap.get? b=some o->H₀ b=none->b∉J7 outer->B.get? b=some o:=fun b o q n hb=>
   kb b o (hub.keep b o q n hb (by simp)) (hub.free b o q n (by simp)) (ah6 I q hb)
 have tb':∀b o,s₀.heap.get? b=some o->b∉J7 outer->∃o',B.get? b=some o':=fun b o q hb=>by
   obtain ⟨o',e'⟩:=hub.there b o q (by simp);exact tb b o' e' (ah6 I q hb)
 have plain:∀b∈J7 outer,∀o,s'.heap.get? b=some o->∀vs,o.data≠.fields vs:=fun b hb o ho=>by
   obtain ⟨_,o1,ho1,hn⟩:=I.stack.mem (sub b hb);obtain ⟨sl,e1⟩:=un'.slot b o1 ho1 (I.stkFree b (sub b hb)) (sub b hb) (by simp);rw[ho] at e1;cases e1;exact hn
 have unw:Un (J7 outer) [] H₀ H' s₀.heap s'.heap:={
   keep:=fun b o q n hb _=>un'.keep b o (hub.keep b o q n hb (by simp)) (hub.free b o q n (by simp)) (ah6 I q hb) (by simp)
   slot:=fun b o q n hb _=>by
     obtain ⟨sl,e1⟩:=hub.slot b o q n hb (by simp);obtain ⟨sl2,e2⟩:=un'.slot b _ e1 (hub.free b o q n (by simp)) (sub b hb) (by simp);exact ⟨sl2,e2⟩
   free:=fun b o q n _=>by
     obtain ⟨sl,e1⟩:=hub.any q n (by simp);exact un'.free b _ e1 (hub.free b o q n (by simp)) (by simp)
   there:=fun b o q _=>by
     obtain ⟨o',e1⟩:=hub.there b o q (by simp);exact un'.there b o' e1 (by simp)
   tups:=fun b xs q=>un'.tups b xs (hub.tups b xs q)
   frzs:=fun b o u q=>un'.frzs b o u (hub.frzs b o u q)
   tbls:=fun b ps q=>by
     obtain ⟨m1,q1⟩:=hub.tbls b ps q;obtain ⟨m2,q2⟩:=un'.tbls b _ q1
     exact ⟨m1++m2,by rw[q2,Array.append_assoc]⟩}
 exact ⟨a,t,C,vs,B,H',rfl,os.trans I.os,bare,bz0 unw kb' tb' fl2.1 up plain,hok,kb',tb',fl2,tup.of_slots up,tn,imp _ _ _ hE⟩
end
theorem di4 {K:PySem.W.Frag}{h:Heap}{C:Addr}{bmB:List Value}{newId:String}(X:K.In h)(q:PySem.W.excIn K C bmB newId=true):
   ∃(bm:List Value) (N:Addr) (nm qn:Str) (bs:List Value) (hdct:Bool) (sn:List Str) (sub:List Value) (ab:Bool) (col:Option Bool) (dd:Option Addr) (k0 k1 k2 k3 k5:Option Value) (mN:Str->Option Value),
    K.lookup C=some (excClassObj nm qn C N bs bm hdct sn sub ab col dd k0 k1 k2 k3 k5 newId)/\h.Ns N mN/\mN "__init__"=none/\OwnTail h bmB bm:=by
 unfold PySem.W.excIn at q
 split at q
 · rename_i dd cd sl look
   split at q
   · rename_i C' bm k0 k1 k2 k3 n k5 hmro hsl;rw[eg7,eg7,eg7,eg7,eg7] at q;obtain ⟨⟨⟨⟨⟨q1,q2⟩,q3⟩,q4⟩,q5⟩,q6⟩:=q;have e1:C'=C:=beq_iff_eq.mp q1;have e2:n=newId:=beq_iff_eq.mp q2;subst e1 e2;obtain ⟨nm,bs,mro,ns,qn,hd,sn,sub,ab,col,del⟩:=cd;have e3:mro= .ref C'::bm:=hmro
     have e4:del=false:=by
       cases del with
       |false=>rfl
       |true=>cases q3
     subst e3 e4
     have e5:sl= #[k0,k1,k2,k3,some (.builtin n),k5]:=by
       apply Array.ext'
       exact hsl
     subst e5;exact ⟨bm,ns,nm,qn,bs,hd,sn,sub,ab,col,dd,k0,k1,k2,k3,k5,_,look,.of_isNs (PySem.W.isNs_of_in X q5),PySem.W.nsMap_none_of_in X q5 (beq_iff_eq.mp q6),PySem.W.tail_of_in X q4⟩
   · cases q
 · cases q
abbrev veB:List Value:=[.type "ValueError",.type "Exception",.type "BaseException",.type "object"]
structure Err (K:PySem.W.Frag)(mg:Str->Option Value)(x:Str)(C:Addr):Prop where
 mg:mg x=some (.ref C)
 ex:PySem.W.excIn K C veB "ValueError.__new__"=true
section
variable {X:Cx}
theorem ae8 {x:Str}{C:Addr}{E:XK}{e:Expr}{te:TE}{np cpos pos:Pos}(R:ct6 X E)(hc:X.calm=true)(c:Err X.K X.mg x C)(he:PE X e te)(hg:Gl X x:=by rfl)
   (hs:starEach [e] X.env=(false,eval e X.env)::starEach [] X.env:=by rfl) (hd:(x==("__debug__":Str))=false:=by decide):
   PS X (.Raise (some (.Call (.Name x np) [e] [] cpos)) none pos) (fun _ σ H=>te σ H fun _ H1=>E (.ref C) none H1):=by
 intro pins s σ H D I h;obtain ⟨bm,N,nm,qn,bs,hdct,sn,sub,ab,col,dd,k0,k1,k2,k3,k5,mN,hC,hN,hni,T⟩:=di4 I.ok.mod.kin c.ex
 refine wpAny_Raise_call_subT (C:=C) (nm:=nm) (q:=qn) (N:=N) (bs:=bs) (bm:=bm) (hdct:=hdct) (sn:=sn) (sub:=sub) (ab:=ab) (col:=col) (dd:=dd) (k0:=k0) (k1:=k1) (k2:=k2) (k3:=k3) (k5:=k5)
   PySem.F.excBase_ValueError (mN:=mN) (T.hasType PySem.F.excBase_ValueError.hasBase) (I.ok.hd hc) (by rw[hs];rfl) hni (ap4 I hg c.mg ⟨rfl,?_⟩ hd)
 rw[hs];refine Calls.evalArgs_plain (Calls.spliced_cons (r6 (he pins s σ H _ I h) fun v s1 ⟨x,H1,I1,rx,q⟩=>Calls.spliced_nil ?_));exact ⟨rfl,(by show 1<=sizeLine;decide),I1.kIn _ _ hC,hN.keeps I1.bk,T.keeps I1.bk,fun h' e' hm=>R pins σ H1 s1 h' e' C _ I1 hm q⟩
end
section
variable {P:Program} {w:World} {K:PySem.W.Frag} {mg:Str->Option Value} {base:Heap}
theorem m9.lift {k:Nat}{f:Addr}{fd:FuncData}{ps:List Str}{sp:Sp}{CX:CXT}(F:m9 P w K mg base E2 k f fd ps sp):m9 P w K mg base CX k f fd ps sp:=
 ⟨F.len,fun A outer s H args us vs Q E hr e0 hb hv hs=>codeAny_mono (F.run A outer s H args us vs Q E hr e0 hb hv hs) fun r s' h=>by
   cases r with
   |error e=>exact (show False from h).elim
   |ok v=>cases v<;>exact h⟩
theorem m9.or {k:Nat}{f:Addr}{fd:FuncData}{ps:List Str}{sp sp':Sp}{CX:CXT}(F:m9 P w K mg base CX k f fd ps sp)(G:m9 P w K mg base CX k f fd ps sp'):m9 P w K mg base CX k f fd ps (fun vs H Q E=>sp vs H Q E\/sp' vs H Q E):=
 ⟨fun vs H Q E h=>h.elim (F.len vs H Q E) (G.len vs H Q E),fun A outer s H args us vs Q E hr e0 hb hv hs=>hs.elim (F.run A outer s H args us vs Q E hr e0 hb hv) (G.run A outer s H args us vs Q E hr e0 hb hv)⟩
theorem B6.okx {x qual:Str}{st:Stmt}{f:Addr}{fd:FuncData}{N ps:List Str}{k:Nat}{sp:Sp}(F:B6 K x qual st f fd)(S:n5 N ps (i8 st))(len:∀vs H Q E,sp vs H Q E->vs.length=ps.length)
   (hbody:∀(cdv:Value) (A:Around) (outer:List Env) (s:Shared) (H:Hp) (vs:List V) (Q:VK) (E:XK),l6 k (A.deeper (envOfC qual (i8 st) s.heap.objs.size f cdv))->sp vs H Q E->
     ∃t,PSs (t6 (CX1 P w) P w K mg base N qual (i8 st) f cdv A outer s H E) (aa9 st) t/\t {nx:=fun _ H'=>Q .non H',rt:=Q} (ag5 N vs) H):m9 P w K mg base (CX1 P w) (k+1) f fd ps sp:=by
 obtain ⟨oc,od,kV,doc,pm,an,cdv,ct,osl,rfl,lk,hcd⟩:=F.ex
 exact df1 lk hcd S len fun A outer s H vs Q E hr hsp=>hbody cdv A outer s H vs Q E hr hsp
def O2 (P:Program)(w:World)(K:PySem.W.Frag)(mg:Str->Option Value)(base:Heap)(x:Str)(k:Nat)(ps:List Str)(sp:Sp):Prop:=
 ∃(f:Addr) (fd:FuncData),mg x=some (.ref f)/\PySem.W.keepIn K (.ref f)=true/\aj4 K fd ps []/\m9 P w K mg base (CX1 P w) k f fd ps sp
end
section
variable {X:Cx} {x:Str} {k:Nat} {ps:List Str} {sp:Sp} {e:Expr} {es:List Expr} {t:TA} {p pos:Pos} {E:XK}
theorem W1 (c:O2 X.prog X.w X.K X.mg X.base x k ps sp)(hr:l6 k X.A)(hx:ay1 (CX1 X.prog X.w) X E)(ha:PA X (e::es) t)(hg:Gl X x:=by rfl)(hdb:(x==("__debug__":Str))=false:=by decide)
   (he:starEach (e::es) X.env=(false,eval e X.env)::starEach es X.env:=by rfl) (hpl:(backTo pos (starEach es X.env)).any (·.1)=false:=by rfl):PE X (.Call (.Name x p) (e::es) [] pos) (bh9 sp [] E t):=by
 obtain ⟨f,fd,h1,h2,h3,h4⟩:=c;exact ch1 h4 hr hg h1 h2 h3 .nil hx ha hdb he hpl
end
end L2
namespace L2
open PySem PySem.Spec PyProof.Rows
theorem y9.get {P:Program}{w:World}{H:Hp}{h:Heap}{a:Addr}{o:HO}(x:y9 P w H h a o):∃u,h.get? a=some u:=by
 cases o with
 |lst xs=>obtain ⟨_,_,_,_,e⟩:=x;exact ⟨_,e⟩
 |tup xs=>obtain ⟨_,_,_,ob,e,_⟩:=x;exact ⟨_,e⟩
 |dK kvs=>obtain ⟨_,_,_,_,o,_,_,e,_⟩:=x;exact ⟨_,e⟩
 |dT kvs=>obtain ⟨_,_,_,_,o,_,_,e,_⟩:=x;exact ⟨_,e⟩
 |set S n=>obtain ⟨o,_,_,_,e,_⟩:=x;exact ⟨_,e⟩
 |ins C dx fs=>obtain ⟨_,_,_,e,_⟩:=x;exact ⟨_,e⟩
 |own y=>obtain ⟨_,e⟩:=x;exact ⟨_,e⟩
 |xd fs=>obtain ⟨_,⟨_,_,_,e,_⟩,_⟩:=x;exact ⟨_,e⟩
 |rng lo hi=>obtain ⟨_,_,_,e⟩:=x;exact ⟨_,e⟩
 |frz ob u=>obtain ⟨e,_⟩:=x;exact ⟨_,e⟩
 |tbl ps=>exact ⟨_,show h.get? a=some _ from x⟩
 |met f y=>exact ⟨_,show h.get? a=some _ from x⟩
 |ext φ=>obtain ⟨_,⟨_,e⟩,_⟩:=x;exact ⟨_,e⟩
def bz2 (a C:Addr):HO:= .ext fun h=>∃oe vs,h.get? a=some oe/\oe.cls= .ref C/\oe.data= .fields vs
section
variable {X:Cx} {pins:List (Addr×Obj)} {σ:St} {H H':Hp} {s s':Shared}
theorem di5 {M:Model}{A:Around}{E:Value->Shared->Prop}{i:Nat}{n:Str}{pos:Pos}{Q:Unit->Shared->Prop}(I:i5 X pins σ H s)(hN:X.N.Nodup)(hi:X.N[i]? =some n)(hk:X.env.kindOf n=some .local)
   (h:∀s',i5 X pins (σ.set i none) H s'->Q () s'):wpAny M A (do bindName X.env n .none;unbindBehindTheSuite X.env n pos) Q E s:=by
 obtain ⟨m,hn,hl⟩:=id I.loc
 have hcls:(X.env.scope.kind== .class||(X.env.scope.kind== .module&&X.env.locals !=X.env.globals))=false:=by rw[I.ok.kind];rfl
 have hiσ:i < σ.length:=by rw[I.len];exact (ed3.mp hi).1
 have cne:=I.cne
 refine wpAny_nameGoes_keeps hk hn hcls fun h' v hn' hs=>h _ ?_
 obtain ⟨oL,_,_,hoL,_⟩:=id hn
 have low:∀b o,X.s₀.heap.get? b=some o->b≠X.env.locals:=fun b o e=>eh5 (eg2 (Heap.lt_size e) I.ok.above)
 refine ⟨I.ok,I.os,I.bare,⟨fun b o e n hb hx=> ?_,fun b o e n hb hx=> ?_,I.base.free,fun b o e hx=> ?_,I.base.tups,I.base.frzs,I.base.tbls⟩,⟨_,hn',fun j y v' e1 e2 e3=> ?_⟩,fun y c e=> ?_,I.free,I.freeC,fun p hp=> ?_,fun b ob e=> ?_,by simpa using I.len⟩
 · exact (hs.2 b (low b o e)).trans (I.base.keep b o e n hb hx)
 · obtain ⟨sl,e1⟩:=I.base.slot b o e n hb hx;exact ⟨sl,(hs.2 b (low b o e)).trans e1⟩
 · obtain ⟨o',e1⟩:=I.base.there b o e hx;exact ⟨o',(hs.2 b (low b o e)).trans e1⟩
 · by_cases hj:j=i
   · subst hj;rw[eq0 hiσ] at e2;cases e2
   · rw[er3 (Ne.symm hj)] at e2;obtain ⟨u',r',q⟩:=hl j y v' e1 e2 e3;refine ⟨u',r',?_⟩
     rcases q with ⟨k,e⟩|⟨k,c,e,z⟩
     · refine .inl ⟨k,?_⟩
       have:y≠n:=fun e=>hj (be5 hN e1 (e▸hi))
       simp [this,e]
     · exact .inr ⟨k,c,e,z.sameBut hs (cne y c e)⟩
 · obtain ⟨w',z⟩:=I.cell y c e;exact ⟨w',z.sameBut hs (cne y c e)⟩
 · obtain ⟨e,n,ne,nf,d⟩:=I.pin p hp;exact ⟨(hs.2 p.1 ne).trans e,n,ne,nf,d⟩
 · refine (I.hok b ob e).stay (fun c w' hc q=>(hs.2 c ?_).trans q) (fun _ q=>q) fun _ _ q=>q
   rintro rfl
   rcases hc with rfl|hc
   · rw[I.free] at e;cases e
   · rw[I.free] at hc;cases hc
abbrev Cx.marked (X:Cx)(a:Addr):Cx:={X with A:=X.A.mark (some (.ref a)),calm:=false,xe:=fun _ _=>False}
theorem i5.mark (I:i5 X pins σ H s)(a:Addr):i5 (X.marked a) pins σ H s:=
 ⟨⟨I.ok.mod,I.ok.kind,I.ok.glob,I.ok.blt,I.ok.above,I.ok.inj,I.ok.has,I.ok.cab,(fun z=>nomatch z),I.ok.frames,I.ok.stk,I.ok.exf,I.ok.bs,I.ok.bsz,I.ok.noex,I.ok.exfs,I.ok.funs,I.ok.frf⟩,I.os,I.bare,I.base,I.loc,I.cell,I.free,I.freeC,I.pin,I.hok,I.len⟩
theorem i5.unmark {a:Addr}(ok:X.Ok)(I:i5 (X.marked a) pins σ H s):i5 X pins σ H s:=
 ⟨ok,I.os,I.bare,I.base,I.loc,I.cell,I.free,I.freeC,I.pin,I.hok,I.len⟩
theorem i5.trackNew {a:Addr}{o:HO}(I:i5 X pins σ H s)(hn:H a=none)(h0:X.s₀.heap.get? a=none)(hL:a≠X.env.locals)(hc:∀x c,X.env.cells.lookup x=some c->c≠a)(hp:∀p∈X.pn++pins,p.1≠a)(new:y9 X.prog X.w (c9 H a o) s.heap a o):
   i5 X pins σ (c9 H a o) s:=by
 refine ⟨I.ok,I.os,I.bare,⟨I.base.keep,I.base.slot,fun b o' e n hx=> ?_,I.base.there,fun b xs e=> ?_,fun b o' u e=> ?_,fun b ps e=> ?_⟩,I.loc,I.cell,?_,fun x c e=> ?_,fun p hq=> ?_,I.hok.track hn new,I.len⟩
 · rw[g8 (fun z=>by rw[z,h0] at e;cases e)];exact I.base.free b o' e n hx
 · have:=I.base.tups b xs e;rw[g8 (g7 this hn)];exact this
 · have:=I.base.frzs b o' u e;rw[g8 (g7 this hn)];exact this
 · obtain ⟨m,this⟩:=I.base.tbls b ps e;exact ⟨m,by rw[g8 (g7 this hn)];exact this⟩
 · rw[g8 (Ne.symm hL)];exact I.free
 · rw[g8 (hc x c e)];exact I.freeC x c e
 · obtain ⟨e,n,ne,nf,d⟩:=I.pin p hq;exact ⟨e,by rw[g8 (hp p hq)];exact n,ne,nf,d⟩
end
def PX (X:Cx)(st:List Stmt)(t:XK->TS):Prop:=
 ∀(pins:List (Addr×Obj)) (s:Shared) (σ:St) (H:Hp) (D:W4) (E:XK) (E1:Value->Shared->Prop),i5 X pins σ H s->
  (∀(H1:Hp) (s1:Shared) (e:Value) (s':Shared),i5 X pins σ H1 s1->CX1 X.prog X.w X.stack H1 s1 E e s'->E1 e s')->t E D σ H->wpAny (model X.prog X.w) X.A (execs st X.env) (SP X pins D) E1 s
section
variable {X:Cx} {x:Str} {k:Nat} {ps:List Str} {sp:Sp} {e:Expr} {es:List Expr} {t:TA} {p pos:Pos}
theorem PA.any (h:PA X.nox es t)(E1:Value->Shared->Prop):PA (X.wish E1) es t:=fun pos pins s σ H Q I hw=>
 wpAny_mono (h pos pins s σ H Q (I.unwish.wish _) hw) (fun _ _ ⟨v,H',I',r,q⟩=>⟨v,H',I'.unwish.wish E1,r,q⟩) fun _ _ z=>False.elim z
theorem di6 {pins:List (Addr×Obj)}{σ:St}{H:Hp}{s:Shared}{Q:VK}{E:XK}{E1:Value->Shared->Prop}(c:O2 X.prog X.w X.K X.mg X.base x k ps sp)(hr:l6 k X.A)(ha:PA X.nox (e::es) t)(I:i5 X pins σ H s)
   (hx:∀(H1:Hp) (s1:Shared) (e:Value) (s':Shared),i5 X pins σ H1 s1->CX1 X.prog X.w X.stack H1 s1 E e s'->E1 e s') (h:bh9 sp [] E t σ H Q) (hg:Gl X x) (hdb:(x==("__debug__":Str))=false)
   (he:starEach (e::es) X.env=(false,eval e X.env)::starEach es X.env) (hpl:(backTo pos (starEach es X.env)).any (·.1)=false):
   wpAny (model X.prog X.w) X.A (eval (.Call (.Name x p) (e::es) [] pos) X.env) (EP X pins σ Q) E1 s:=by
 obtain ⟨f,fd,h1,h2,h3,h4⟩:=c;have Iw:i5 (X.wish E1) pins σ H s:=I.wish E1;refine wpAny_Call_Name_kw (ap4 (E:=E1) I hg h1 ?_ hdb);refine PySem.W.callWith_K (h₀:=X.base) I.ok.mod.kin h2 (r6 ((PA.any ha E1) pos pins s σ H _ Iw h) fun us s1 ⟨vs,H1,I1,r,q⟩=>⟨I1.kIn,?_⟩) he hpl;have I1':i5 X pins σ H1 s1:=I1.unwish
 have r2:n6 (vs++[]) us:=by rw[eg0];exact r
 have hl:(us++[]).length=ps.length:=by rw[eg0,<-r2.length];exact h4.len _ _ _ _ q
 have hb:=h3 s1 us I1'.kIn hl;rw[eg0] at hb;refine wpAny_call (codeAny_mono (h4.run X.A X.stack s1 H1 ⟨us,[]⟩ us (vs++[]) Q E hr I1'.env0 hb r2 q) fun rr s' hq=> ?_)
 cases rr with
 |error e=>exact hx H1 s1 e s' I1' hq
 |ok fl=>
  cases fl with
  |ret u=>exact I1'.after hq
  |next=>exact False.elim hq
  |brk=>exact False.elim hq
  |cont=>exact False.elim hq
theorem bz3 {i:Nat}{y:Str}{py sp':Pos}(c:O2 X.prog X.w X.K X.mg X.base x k ps sp)(hr:l6 k X.A)(hN:X.N.Nodup)(hi:X.N[i]? =some y)(hy:Loc X.env.scope y)(ha:PA X.nox (e::es) t)(hg:Gl X x:=by rfl)(hdb:(x==("__debug__":Str))=false:=by decide)
   (he:starEach (e::es) X.env=(false,eval e X.env)::starEach es X.env:=by rfl) (hpl:(backTo pos (starEach es X.env)).any (·.1)=false:=by rfl)
   (hs:swapsWith (.Call (.Name x p) (e::es) [] pos) (some (.Name y py)) sp'.line X.env=pure false:=by rfl) (hf:X.fn y=true\/X.env.scope.names.lookup y=some .local:=by first|exact .inl rfl|exact .inr rfl|assumption):
   PX X [.Assign [.Name y py] (.Call (.Name x p) (e::es) [] pos) sp'] (fun E D σ H=>bh9 sp [] E t σ H fun v H1=>D.nx (σ.set i (some v)) H1):=by
 intro pins s σ H D E E1 I hx h
 have first:wpAny (model X.prog X.w) X.A (exec (.Assign [.Name y py] (.Call (.Name x p) (e::es) [] pos) sp') X.env) (SP X pins D) E1 s:=
   wpAny_Assign_Name (r6 (di6 c hr ha I hx h hg hdb he hpl) fun v s1 ⟨y',H1,I1,r1,q1⟩=>ae1 I1 hN hi hy r1 (fun s2 I2=>show SP X pins D .next s2 from ⟨_,H1,I2,q1⟩) hf) hs
 refine wpAny_execs_cons (r6 first fun f s1 q=> ?_)
 cases f with
 |next=>exact wpAny_execs_nil q
 |ret v=>exact q
 |brk=>exact q
 |cont=>exact q
end
section
variable {X:Cx}
def di7 (K:PySem.W.Frag)(T:Addr)(i:Nat)(ts:TS)(D:W4)(σ:St):XK:=fun c _ H'=>
 ∃C,c= .ref C/\PySem.W.exmOne K (.ref C) (.ref T)=some true/\∀a,H' a=none->ts {nx:=fun σ' H''=>D.nx (σ'.set i none) H'',rt:=fun _ _=>False} (σ.set i (some (.ref a))) (c9 H' a (bz2 a C))
theorem bz4 {body:List Stmt}{x n:Str}{T:Addr}{i:Nat}{np hp pos:Pos}{b₀:Stmt}{suite:List Stmt}{tb:XK->TS}{ts:TS}(hb:PX X body tb)(hm:X.mg x=some (.ref T))(hN:X.N.Nodup)(hi:X.N[i]? =some n)(hk:X.env.kindOf n=some .local)
   (hsu:∀a,PSs (X.marked a) (b₀::suite) ts) (hst:X.stack=X.env::X.outer:=by rfl) (hfr:X.env.frame=some X.env.locals:=by rfl) (hex0:X.ex=[]:=by rfl) (hg:Gl X x:=by rfl) (hdb:(x==("__debug__":Str))=false:=by decide) (hf:X.fn n=true\/X.env.scope.names.lookup n=some .local:=by first|exact .inl rfl|exact .inr rfl|assumption):
   PS X (.Try body [.ExceptHandler (some (.Name x np)) (some n) (b₀::suite) hp] [] [] pos) (fun D σ H=>tb (di7 X.K T i ts D σ) D σ H):=by
 intro pins s σ H D I h;refine wpAny_Try_except (wpAny_mono (hb pins s σ H D _ (fun e s₁=>wpAny (model X.prog X.w) X.A (noteFrame e X.env) (fun _ s₂=>wpAny (model X.prog X.w) X.A (setFlight e none) (fun _ s₃=>wpAny (model X.prog X.w) X.A (handleBy e X.env [.ExceptHandler (some (.Name x np)) (some n) (b₀::suite) hp]) (SP X pins D) X.xe s₃) X.xe s₂) X.xe s₁) I (fun H1 s1 e s' I1 hcx=> ?_) h) (fun f s1 q=> ?_) fun _ _ z=>z)
 · obtain ⟨a,t,C,vs,B,H',rfl,os,bare,un,hok,kb,tb',fl,tup,tn,C',hCe,hex,hts⟩:=hcx;cases hCe;rw[hst] at un fl kb tb'
   have hframes:X.A.frames=some (X.env::X.outer):=by rw[<-hst];exact I1.ok.frames
   have plain:∀b∈J7 (X.env::X.outer),∀o,s'.heap.get? b=some o->∀vs,o.data≠.fields vs:=fun b hb o ho=>by
     obtain ⟨_,o',ho',hn⟩:=fl.2.2.1.mem hb;rw[ho] at ho';cases ho';exact hn
   have notB:B.get? a=none:=fl.2.1
   have notF:a∉J7 (X.env::X.outer):=fun hm=>by
     obtain ⟨oe,ws,he,_,hd,_⟩:=fl.first;exact plain a hm oe he ws hd
   have new1:s1.heap.get? a=none:=by
     cases q:s1.heap.get? a with
     |none=>rfl
     |some o=>
      obtain ⟨o',e'⟩:=tb' a o q notF;rw[notB] at e';cases e'
   have new0:X.s₀.heap.get? a=none:=by
     cases q:X.s₀.heap.get? a with
     |none=>rfl
     |some o=>
      by_cases hx:a∈X.ex
      · rw[hex0] at hx;simp at hx
      · obtain ⟨o',e'⟩:=I1.base.there a o q hx;rw[new1] at e';cases e'
   have hHa:H' a=none:=by
     cases q:H' a with
     |none=>rfl
     |some o=>obtain ⟨u,hu⟩:=(hok a o q).get;rw[notB] at hu;cases hu
   refine wpAny_looks_onW hframes hfr fl fun h₄ held₄ up₄=> ?_
   refine wpAny_landsW held₄ fun h₅ fl₅ up₅=> ?_
   have inv:∀h,B.StaysIn h->s'.heap.UpToSlots h->i5 X pins σ H' {s' with heap:=h}:=fun h st up=>
     I1.call' (ch:=[]) (s':={s' with heap:=h}) os (by rw[hst];exact bz0 un kb tb' st up plain) (hok.kept st) bare (fun b z=>absurd z (by simp))
   have I5:=inv h₅ fl₅.1 (up₄.trans up₅);refine wpAny_handleBy_cons (codeAny_handlers_test (ap4 (X:=X.marked a) (E:=_) (I5.mark a) hg hm ?_ hdb)) (by intro q;cases q);obtain ⟨ob,hob,hobc⟩:=fl₅.there;have LT:PySem.W.Looks (model X.prog X.w) h₅ (typeOf (.ref a)) (.ref C):=hobc▸(PySem.W.Looks.ld hob).andThen .now;refine PySem.W.exm_one (M:=model X.prog X.w) (h:=h₅) I5.kIn LT hex _ _ _ _ (fun _ _ q=>q) ?_;refine codeAny_handlers_suite_as ?_
   refine lands_againW fl₅ fun h₆ fl₆ up₆=> ?_
   have I6:=inv h₆ fl₆.1 ((up₄.trans up₅).trans up₆)
   have hLa:a≠X.env.locals:=fun z=>notF (by unfold J7;rw[em7,hfr];rw[z];exact ed7)
   have hca:∀y c,X.env.cells.lookup y=some c->c≠a:=fun y c e z=>by
     obtain ⟨v,o,ho,_⟩:=I1.cell y c e;rw[z,new1] at ho;cases ho
   have hpa:∀q∈X.pn++pins,q.1≠a:=fun q hq z=>by
     obtain ⟨e,_⟩:=I1.pin q hq;rw[z,new1] at e;cases e
   obtain ⟨oe,ws,he6,hc6,hd6,_⟩:=fl₆.first;have I7:i5 X pins σ (c9 H' a (bz2 a C)) {s' with heap:=h₆}:=I6.trackNew hHa new0 hLa hca hpa ⟨⟨oe,ws,he6,hc6,hd6⟩,⟨oe,he6⟩,fun h1 h2 ⟨o1,v1,q1,q2⟩ st=>⟨o1,v1,st o1 q1,q2⟩⟩;have hts':=hts a hHa;refine ae1 I7 hN hi (.inl hk) (show o9 (.ref a) (.ref a) from rfl) (fun s2 I8=> ?_) hf
   refine wpAny_mono (hsu a pins s2 _ _ _ (I8.mark a) hts') (fun f s3 q=> ?_) fun _ _ z=>False.elim z
   cases f with
   |next=>
    obtain ⟨σ',H'',I9,q⟩:=q
    exact di5 (I9.unmark I1.ok) hN hi hk fun s4 I10=>show SP X pins D .next s4 from ⟨_,_,I10,q⟩
   |ret v=>obtain ⟨_,_,_,_,_,q⟩:=q;exact q.elim
   |brk=>obtain ⟨_,_,_,q⟩:=q;exact q.elim
   |cont=>obtain ⟨_,_,_,q⟩:=q;exact q.elim
 · cases f with
   |next=>exact wpAny_execs_nil q
   |ret v=>exact q
   |brk=>exact q
   |cont=>exact q
end
end L2
namespace L2
open PySem PySem.Spec PyProof.Rows PySem.W PySem.Builtin PySem.Builtin.ObjectAttr PySem.Builtin.Getset_descriptor
section
variable {prog:Program} {w:World} {A:Around} {E:Value->Shared->Prop} {s:Shared} {K:PySem.W.Frag} {a C:Addr}
structure bm9 (K:PySem.W.Frag)(C:Addr):Prop where
 ga:PySem.W.findIn K (.ref C) "__getattribute__"=some (some (.builtin "BaseException.__getattribute__"))
 hook:PySem.W.findIn K (.ref C) "__getattr__"=some none
 cls:PySem.W.findIn K (.ref C) "__class__"=some (some (.builtin "object.__class__"))
 get:PySem.W.specialIn K (.builtin "object.__class__") "__get__"=some (some (.builtin "getset_descriptor.__get__"))
 tak:PySem.W.takesIn K (.builtin "object.__class__")=some true
 bex:PySem.W.mroIn K C (.type "BaseException")=some true
 obj:PySem.W.mroIn K C (.type "object")=some true
 isc:∃oc,K.lookup C=some oc/\∃cd,oc.data= .cls cd
theorem bu3 {tp:Value}{R:Result->Shared->Prop}(X:K.In s.heap)(L0:PySem.W.Looks (model prog w) s.heap (typeOf (.ref a)) (.ref C))(hm:PySem.W.mroIn K C (.type "object")=some true)
   (h:R (.ok (.ret (.ref C))) s):codeAny (model prog w) A (.call (.builtin "getset_descriptor.__get__") ⟨[.builtin "object.__class__",.ref a,tp],[]⟩) R s:=by
 obtain ⟨hh,g,dr,t,os⟩:=s;have L1:=looks_mroIn (M:=model prog w) X hm;refine codeAny_call_builtin KF.slot_gs.plain KF.entry_gs (KF.slot_gs.check _ _ _ _ _ _ _ _ KF.type_class (KF.args_gs _ _ _) ?_);unfold Builtin.«getset_descriptor.__get__» descrGet;rw[dga_obj];refine wpAny_bind (wpAny_pure ?_);unfold descrGetter descrCheckInstance descrNameAndClass isInstance;simp only[KF.owner_class]
 repeat lk
 refine ⟨Code.quiet_builtin _ (by decide+kernel),codeAny_builtin KF.entry_class ?_⟩;unfold Builtin.«object.__class__» shownTypeOf
 repeat lk
 exact h
theorem ct7 {M:Model}{nameV:Value}{Q:Unit->Shared->Prop}(X:K.In s.heap)(L0:PySem.W.Looks M s.heap (typeOf (.ref a)) (.ref C))(hm:PySem.W.mroIn K C (.type "BaseException")=some true)
   (hq:Q () s):wpAny M A (checkBuiltinCall "BaseException.__getattribute__" ⟨[.ref a,nameV],[]⟩) Q E s:=by
 obtain ⟨hh,g,dr,t,os⟩:=s;have L1:=looks_mroIn (M:=M) X hm
 have hk:builtinKind "BaseException.__getattribute__"=some .slot:=by decide+kernel
 have hsplit:splitId "BaseException.__getattribute__"=some ("BaseException","__getattribute__"):=by decide+kernel
 have ha:=F.args_bexc_ga (.ref a) nameV;simp only[checkBuiltinCall,hk,hsplit];unfold isInstance
 repeat (first|lk|wp_step)
 exact hq
theorem ct8 {tk:Tok}{Q:Fin->Shared->Prop}(X:K.In s.heap)(L0:PySem.W.Looks (model prog w) s.heap (typeOf (.ref a)) (.ref C))(I:bm9 K C)(hq:Q (.done (.ret (.ref C))) s):
   wpAny (model prog w) A (Builtin.«object.__getattribute__» ⟨[.ref a,.str "__class__" tk],[]⟩) Q E s:=by
 obtain ⟨hh,g,dr,t,os⟩:=s;have L1:=looks_findIn (M:=model prog w) X I.cls;have L2:=looks_specialIn (M:=model prog w) X I.get;have L3:=looks_takesIn (M:=model prog w) X I.tak;unfold Builtin.«object.__getattribute__»
 repeat lk
 refine wpAny_run (bu3 X L0 I.obj ?_)
 repeat (first|exact hq|lk)
theorem bn0 {Q:Option Value->Shared->Prop}(X:K.In s.heap)(L0:PySem.W.Looks (model prog w) s.heap (typeOf (.ref a)) (.ref C))(I:bm9 K C)(h:Q (some (.ref C)) {s with toks:=s.toks+1}):
   wpAny (model prog w) A (getAttr? (.ref a) "__class__") Q E s:=by
 obtain ⟨hh,g,dr,t,os⟩:=s;have L1:=looks_findIn (M:=model prog w) X I.ga;have L2:=looks_findIn (M:=model prog w) X I.hook;have hb:=PySem.F.attrBase_ValueError.ga.bind (.ref a);unfold getAttr? getAttrBy? getAttrBy;refine wpAny_bind (wpAny_mkText (wpAny_bind (wpAny_attempt (wpAny_holding (wpAny_bind (L0.at (wpAny_bind (L1.at ?_))))))))
 dsimp only
 rw[if_neg (show ¬((onTheHeap (Value.ref C)&&Value.builtin "BaseException.__getattribute__"==Value.builtin "object.__getattribute__")=true) from by
   rw[show (Value.builtin "BaseException.__getattribute__"==Value.builtin "object.__getattribute__")=false from by decide+kernel,Bool.and_false];exact ef3)]
 unfold getAttrByItsOwn hookBefore;refine wpAny_bind ?_;rw[if_pos (show onTheHeap (Value.ref C)=true from rfl)];refine L2.at ?_;refine wpAny_bind (wpAny_attempt (wpAny_holding ?_));unfold callGetattribute;rw[if_neg (by simp)];unfold boundAndCalled;rw[hb];refine wpAny_bind (wpAny_pure ?_);refine wpAny_call (codeAny_call_builtin PySem.F.attrBase_ValueError.ga.plain F.entry_bexc_ga (ct7 X L0 I.bex (ct8 X L0 I ?_)));refine handed_on (M:=model prog w) rfl ?_;exact wpAny_pure h
theorem db7 (I:bm9 K C):PySem.W.KitX K (.ref a) (.ref C) (fun h=>∃oe vs,h.get? a=some oe/\oe.cls= .ref C/\oe.data= .fields vs) where
 ty:=fun M h _ ⟨oe,vs,h1,h2,_⟩=>h2▸(PySem.W.Looks.ld h1).andThen .now
 it:=fun M h X _=>by
   obtain ⟨oc,h1,cd,h2⟩:=I.isc;obtain ⟨c1,c2,c3,c4⟩:=oc
   dsimp only at h2
   subst h2;intro A' Q' E' s' k q;unfold isType loadHead;exact wpAny_bind (wpAny_loadPart (k _ _ (X _ _ h1)) (wpAny_pure q))
 ne:=fun h tp dd its n sl X htp=>by
   obtain ⟨oc,h1,cd,h2⟩:=I.isc
   refine Bool.eq_false_iff.mpr fun q=> ?_
   have e:C=tp:=Value.ref.inj (beq_iff_eq.mp q);subst e;have z:=(X _ _ h1).symm.trans htp;cases z;cases h2
 ca:=fun {prog w A E Q s} X ⟨oe,vs,h1,h2,_⟩ k=>bn0 X (h2▸(PySem.W.Looks.ld h1).andThen .now) I k
end
section
variable {X:Cx}
def df5 (K:PySem.W.Frag):List V->Hp->VK->Prop:=fun xs H Q=>∃a C c u b,xs=[.ref a,c]/\((∃D,c= .ref D/\u=Value.ref D)\/(∃n,c= .ty n/\u=Value.type n))/\H a=some (bz2 a C)/\bm9 K C/\PySem.W.kitOne K (.ref C) u=some b/\Q (.bl b) H
theorem ct9:U7 X (.builtin "isinstance") (df5 X.K):=by
 intro pins s σ H xs us Q I r h;obtain ⟨a,C,c,u,b,rfl,hc,hH,ei,hk,q⟩:=h;obtain ⟨u1,u2,rfl,r1,r2⟩:=bv8 r;cases (show u1=Value.ref a from r1)
 have e2:u2=u:=by
   rcases hc with ⟨D,rfl,rfl⟩|⟨n,rfl,rfl⟩
   · exact r2
   · exact r2
 subst e2;have p:=(show y9 X.prog X.w H s.heap a (bz2 a C) from I.hok a _ hH).1
 exact PySem.W.kia_one (db7 ei) I.kIn p hk (fun z=>nomatch z) fun tk=>⟨.bl b,H,I.tok tk,rfl,q⟩
theorem T0 {a b:Expr}{ta:TA}{p pos:Pos}(hm:X.mg "isinstance"=none)(ha:PA X [a,b] ta)(hg:Gl X "isinstance":=by rfl)
 (he:starEach [a,b] X.env=(false,eval a X.env)::starEach [b] X.env:=by rfl) (hpl:(backTo pos (starEach [b] X.env)).any (·.1)=false:=by rfl):
 PE X (.Call (.Name "isinstance" p) [a,b] [] pos) (tCB (df5 X.K) ta):=U9 ct9 hg hm bx8 ha (by decide) (by decide) he hpl
theorem di8:bootBuiltins "ValueError"=some (.type "ValueError"):=by decide+kernel
theorem di9 {p:Pos}(hm:X.mg "ValueError"=none)(hg:Gl X "ValueError":=by rfl):PE X (.Name "ValueError" p) (tC (.ty "ValueError")):=bb2 hg hm di8 rfl
end
theorem dj0 {K:PySem.W.Frag}{C D:Addr}{b:Bool}(h1:PySem.W.isClsIn K D=true)(h2:PySem.W.typeIn K (.ref D)=some (.type "type"))(h3:PySem.W.mroIn K C (.ref D)=some b)(hs:C=D->b=true):PySem.W.kitOne K (.ref C) (.ref D)=some b:=by
 unfold PySem.W.kitOne
 by_cases e:C=D
 · rw[if_pos (by rw[e];exact beq_self_eq_true _),hs e]
 · rw[if_neg (fun q=>e (Value.ref.inj (beq_iff_eq.mp q)))];unfold PySem.W.kitCls
   dsimp only
   rw[if_pos (by rw[eg7];exact ⟨h1,by rw[h2];exact beq_self_eq_true _⟩)];exact h3
theorem dr2 {K:PySem.W.Frag}{C:Addr}(h3:PySem.W.mroIn K C (.type "ValueError")=some true):PySem.W.kitOne K (.ref C) (.type "ValueError")=some true:=by
 unfold PySem.W.kitOne;rw[if_neg (fun q=>by cases beq_iff_eq.mp q)];unfold PySem.W.kitCls
 dsimp only
 rw[if_pos (by decide+kernel)];exact h3
theorem dj1 {K:PySem.W.Frag}{C T:Addr}{b:Bool}(h0:PySem.W.mroIn K T (.type "BaseException")=some true)(h1:PySem.W.isClsIn K T=true)(h2:PySem.W.typeIn K (.ref T)=some (.type "type"))(h3:PySem.W.mroIn K C (.ref T)=some b):PySem.W.exmOne K (.ref C) (.ref T)=some b:=by
 unfold PySem.W.exmOne;rw[if_pos (show (PySem.W.subIn K (.ref T) (.type "BaseException")==some true)=true from beq_iff_eq.mpr h0)];unfold PySem.W.kitCls
 dsimp only
 rw[if_pos (by rw[eg7];exact ⟨h1,by rw[h2];exact beq_self_eq_true _⟩)];exact h3
theorem dj2 {K:PySem.W.Frag}{C:Addr}(ga:PySem.W.findIn K (.ref C) "__getattribute__"=some (some (.builtin "BaseException.__getattribute__")))(hook:PySem.W.findIn K (.ref C) "__getattr__"=some none)(cls:PySem.W.findIn K (.ref C) "__class__"=some (some (.builtin "object.__class__")))
   (get:PySem.W.specialIn K (.builtin "object.__class__") "__get__"=some (some (.builtin "getset_descriptor.__get__"))) (tak:PySem.W.takesIn K (.builtin "object.__class__")=some true) (bex:PySem.W.mroIn K C (.type "BaseException")=some true) (obj:PySem.W.mroIn K C (.type "object")=some true) (isc:PySem.W.isClsIn K C=true):bm9 K C:=
 ⟨ga,hook,cls,get,tak,bex,obj,by
   obtain ⟨cd,h⟩:=es0.mp (show (PySem.W.clsIn K C).isSome=true from isc);unfold PySem.W.clsIn at h
   split at h
   · rename_i ho;exact ⟨_,ho,_,rfl⟩
   · cases h⟩
structure aq3 (K:PySem.W.Frag)(mg:Str->Option Value)(T:Addr)(cs:List (Str×Addr)):Prop where
 top:mg "TurnError"=some (.ref T)
 err:∀p∈cs,Err K mg p.1 p.2
 inst:∀p∈cs,bm9 K p.2
 exm:∀p∈cs,PySem.W.exmOne K (.ref p.2) (.ref T)=some true
 ve:∀p∈cs,PySem.W.kitOne K (.ref p.2) (.type "ValueError")=some true
 pair:∀p∈cs,∀q∈cs,PySem.W.kitOne K (.ref p.2) (.ref q.2)=some (decide (p.1=q.1))
end L2
namespace L2
open PySem PySem.Spec PyProof.Rows
section
variable {X:Cx}
def ci3:V->List V->Hp->VK->Prop:=fun x vs H Q=>∃(l:Addr) (ns:List V) (v:V),x= .ref l/\vs=[v]/\W7 v=true/\ns.all W7=true/\H l=some (.lst ns)/\Q (.int ((ns.countP fun i=>eqV i v:Nat):Int)) H
theorem cu0:MtM X "list.count" ci3:=by
 intro pins s σ H x vs v us Q I rx rv h;obtain ⟨l,ns,k,rfl,rfl,fk,fl,hH,q⟩:=h;cases rx
 cases rv with
 |cons rk rr=>
 rename_i u _;cases rr;obtain ⟨z,its,n,r,hl,e⟩:=I.lstM hH
 refine call_meets F.slot_list_count ⟨_,e,rfl⟩ F.entry_list_count (F.args_list_count_2 _ _)
   (SeqAt.list_countAt l its.toArray n none #[] u (eqU k)) ⟨e,fun y hy=> ?_,?_⟩
 · exact be7 rk fk r fl y (by simpa using hy)
 · have cnt:∀(ms:List V) (us:List Value),n6 ms us->ms.all W7=true->us.countP (eqU k)=ms.countP fun i=>eqV i k:=by
     intro ms
     induction ms with
     |nil=>intro us h _;cases h;rfl
     |cons m ms ih=>
      intro us h f;rw[ev5,eg7] at f
      cases h with
      |cons h1 h2=>rw[et2,et2,ih _ h2 f.2,bw9 h1 f.1]
   rw[show its.toArray.toList.countP (eqU k)=ns.countP fun i=>eqV i k from cnt ns its r fl];exact ⟨.int _,H,I.tok _,⟨_,rfl⟩,q⟩
def ci4:V->List V->Hp->VK->Prop:=fun x vs H Q=>∃(l:Addr) (ns:List V) (v:V) (j:Nat),x= .ref l/\vs=[v]/\W7 v=true/\ns.all W7=true/\H l=some (.lst ns)/\(∃y,ns[j]? =some y/\eqV y v=true)/\(∀i y,i < j->ns[i]? =some y->eqV y v=false)/\ns.length<=1000/\Q (.int j) H
theorem cu1:MtM X "list.index" ci4:=by
 intro pins s σ H x vs v us Q I rx rv h;obtain ⟨l,ns,k,j,rfl,rfl,fk,fl,hH,⟨y,hj,hy⟩,hno,hz,q⟩:=h;cases rx
 cases rv with
 |cons rk rr=>
 rename_i u _;cases rr;obtain ⟨z,its,n,r,hl,e⟩:=I.lstM hH;have hjl:j < ns.length:=(ed3.mp hj).1
 have hjI:j < its.length:=by omega
 have at_:∀m (hm:m < its.length),eqU k its[m]=eqV (ns[m]'(by omega)) k:=fun m hm=>by
   have e1:ns[m]? =some (ns[m]'(by omega)):=ed4 (by omega);obtain ⟨u1,z1,q1⟩:=r.get e1;rw[ed4 hm] at z1;rw[Option.some.inj z1];exact bw9 q1 (el8.mp fl _ (eg9 _))
 refine call_meets F.slot_list_index ⟨_,e,rfl⟩ F.entry_list_index (F.args_list_index_2 _ _)
   (SeqAt.list_indexAt l its.toArray n none #[] u (eqU k) j (by simpa using hjI) (by omega) ?_ ?_) ⟨e,fun y hy=> ?_,?_⟩
 · have:eqU k its.toArray[j]=_:=at_ j hjI;rw[this,<-hy,(ed3.mp hj).2]
 · intro m hm hmj
   have hm':m < its.length:=by simpa using hm
   have:eqU k its.toArray[m]=_:=at_ m hm';rw[this];exact hno m _ hmj (ed4 (by omega))
 · exact be7 rk fk r fl y (by simpa using hy)
 · exact ⟨.int j,H,I.tok _,⟨_,rfl⟩,q⟩
theorem cu2 (K:PySem.W.Frag){o e:Expr}{to:TE}{t:TA}{apos pos:Pos}(ho:PE X o to)(ha:PA X [e] t)(hK:X.K=K:=by rfl)
   (hbase:attributeBase o "count" X.env (eval o X.env)=eval o X.env:=by rfl)
   (hfew:((backTo pos (starEach [e] X.env)).all (fun x=> !x.1)&&(backToKw pos (keywordEach [] X.env)).all (fun x=>x.1.isSome)
     &&decide ([e].length+([]:List Keyword).length+(if ([]:List Keyword).isEmpty then 0 else 1) < 30))=true:=by rfl)
   (hline:(apos.endLine==pos.line)=true:=by rfl) (hs:starEach [e] X.env=(false,eval e X.env)::starEach [] X.env:=by rfl) (hplain:(backTo pos (starEach [] X.env)).any (·.1)=false:=by rfl):
   PE X (.Call (.Attribute o "count" apos) [e] [] pos) (tBM K "list" ci3 to t):=by
 subst hK;exact bi1 PySem.F.plainAttrs_list PySem.F.slot_list_count PySem.F.type_list_count cu0 ho ha hbase hfew hline hs hplain
theorem cu3 (K:PySem.W.Frag){o e:Expr}{to:TE}{t:TA}{apos pos:Pos}(ho:PE X o to)(ha:PA X [e] t)(hK:X.K=K:=by rfl)
   (hbase:attributeBase o "index" X.env (eval o X.env)=eval o X.env:=by rfl)
   (hfew:((backTo pos (starEach [e] X.env)).all (fun x=> !x.1)&&(backToKw pos (keywordEach [] X.env)).all (fun x=>x.1.isSome)
     &&decide ([e].length+([]:List Keyword).length+(if ([]:List Keyword).isEmpty then 0 else 1) < 30))=true:=by rfl)
   (hline:(apos.endLine==pos.line)=true:=by rfl) (hs:starEach [e] X.env=(false,eval e X.env)::starEach [] X.env:=by rfl) (hplain:(backTo pos (starEach [] X.env)).any (·.1)=false:=by rfl):
   PE X (.Call (.Attribute o "index" apos) [e] [] pos) (tBM K "list" ci4 to t):=by
 subst hK;exact bi1 PySem.F.plainAttrs_list PySem.F.slot_list_index PySem.F.type_list_index cu1 ho ha hbase hfew hline hs hplain
end
def aq4:List Expr->Option (List Str)
 |[]=>some []
 | .Constant (.str i) _ _::es=>(aq4 es).map (i:: ·)
 |_::_=>none
def dw2 (ns:List Str):TA:=fun _ H Q=>Q (ns.map V.str) H
def df6 (ns:List Str):TE:=fun _ H Q=>ns.length<=sizeLine/\∀p,H p=none->Q (.ref p) (c9 H p (.lst (ns.map V.str)))
theorem bz5 (i:Str)(j:Nat)(p:Pos)(es:List Expr)(env:Env):starEach (.Constant (.str i) j p::es) env=(false,eval (.Constant (.str i) j p) env)::starEach es env:=rfl
theorem bz6 {X:Cx}:∀(es:List Expr) (ns:List Str),aq4 es=some ns->PA X es (dw2 ns)
 |[],ns,h=>by
  have:ns=[]:=(Option.some.inj h).symm;subst this
  exact fun pos pins s σ H Q I h=>j8 pos pins s σ H Q I h
 |e::es,ns,h=>by
  unfold aq4 at h
  split at h
  · rename_i h0;cases h0
  · rename_i i j p es' heq;cases heq
    cases ho:aq4 es with
    |none=>rw[ho] at h;cases h
    |some ms=>
     rw[ho] at h;cases h
     exact fun pos pins s σ H Q I h=>(e7 (te:=tC (.str i)) G3 (bz6 es ms ho) (bz5 i j p es X.env)) pos pins s σ H Q I h
  · cases h
theorem db8 {X:Cx}{pos:Pos}{es:List Expr}(ns:List Str)(h:aq4 es=some ns):PE X (.List es pos) (df6 ns):=fun pins s σ H Q I h'=>o5 (bz6 es ns h) pins s σ H Q I (by
 show (ns.map V.str).length<=sizeLine/\_
 rw[ed2];exact h')
theorem dj3 {X:Cx}{i:Nat}{y:Str}{es:List Expr}{py lp sp:Pos}(ns:List Str)(h:aq4 es=some ns)(hN:X.N.Nodup)(hi:X.N[i]? =some y)(hy:Loc X.env.scope y)(hs:swapsWith (.List es lp) (some (.Name y py)) sp.line X.env=pure false:=by rfl)
 (hf:X.fn y=true\/X.env.scope.names.lookup y=some .local:=by first|exact .inl rfl|exact .inr rfl|assumption):
 XPS X (.Assign [.Name y py] (.List es lp) sp) (ck7 (df6 ns) (bh6 i)):=⟨i4 hN hi hy (db8 ns h) hs hf⟩
end L2
namespace Mth
theorem bs1 {l m d:Nat}(d1:0 < d):eh9 (d*l) m=d↔d∣m/\eh9 l (m/d)=1:=by
 constructor
 · intro h;have hd:d∣m:=h▸es7 (d*l) m;refine ⟨hd,?_⟩;have e:m=d*(m/d):=(Nat.mul_div_cancel' hd).symm
   have h2:eh9 (d*l) (d*(m/d))=d:=by rw[<-e];exact h
   rw[ew5] at h2;exact eo9 d1 (by rw[h2,em5])
 · rintro ⟨hd,h⟩;have e:m=d*(m/d):=(Nat.mul_div_cancel' hd).symm;rw[e,ew5,h,em5]
end Mth
namespace L2
open PySem PySem.Spec PyProof.Rows
mutual
inductive Sh (H:Hp):V->PyData->Prop
 |non:Sh H .non .none
 |bl (b:Bool):Sh H (.bl b) (.bool b)
 |int (i:Int):Sh H (.int i) (.int i)
 |str (x:Str):Sh H (.str x) (.str x)
 |lst {a:Addr} {xs:List V} {ds:List PyData} (e:H a=some (.lst xs)) (h:P1 H xs ds):Sh H (.ref a) (.list ds)
 |tup {a:Addr} {xs:List V} {ds:List PyData} (e:H a=some (.tup xs)) (h:P1 H xs ds):Sh H (.ref a) (.tuple ds)
inductive P1 (H:Hp):List V->List PyData->Prop
 |nil:P1 H [] []
 |cons {x:V} {xs:List V} {d:PyData} {ds:List PyData} (h:Sh H x d) (hs:P1 H xs ds):P1 H (x::xs) (d::ds)
end
mutual
theorem Sh.reads {X:Cx}{pins:List (Addr×Obj)}{σ:St}{H:Hp}{s:Shared}(I:i5 X pins σ H s):∀{v:V} {d:PyData} {u:Value},Sh H v d->o9 v u->∃as,Reads s.heap u d as
 |_,_,u,.non,r=>by cases (show u=Value.none from r);exact ⟨_,.none⟩
 |_,_,u,.bl b,r=>by cases (show u=Value.bool b from r);exact ⟨_,.bool b⟩
 |_,_,u,.int i,r=>by obtain ⟨t,rfl⟩:=r;exact ⟨_,.int i t⟩
 |_,_,u,.str x,r=>by obtain ⟨t,rfl⟩:=r;exact ⟨_,.str x t⟩
 |_,_,u,.lst e h,r=>by
  cases r;obtain ⟨z,its,n,rv,hl,ho⟩:=I.lstM e;obtain ⟨as,ra⟩:=P1.reads I h rv;exact ⟨_,.list ho rfl rfl (by simpa using ra)⟩
 |_,_,u,.tup e h,r=>by
  cases r;obtain ⟨z,its,rv,o,ho,hc,n,hd⟩:=I.hok _ _ e;obtain ⟨as,ra⟩:=P1.reads I h rv;exact ⟨_,.tuple ho hc hd (by simpa using ra)⟩
theorem P1.reads {X:Cx}{pins:List (Addr×Obj)}{σ:St}{H:Hp}{s:Shared}(I:i5 X pins σ H s):∀{vs:List V} {ds:List PyData} {us:List Value},P1 H vs ds->n6 vs us->∃as,ReadsAll s.heap us ds as
 |_,_,_,.nil,.nil=>⟨_,.nil⟩
 |_,_,_,.cons h hs,.cons r rs=>by
  obtain ⟨as,x⟩:=Sh.reads I h r;obtain ⟨bs,y⟩:=P1.reads I hs rs;exact ⟨_,.cons x y⟩
end
mutual
theorem Sh.keep {H H':Hp}(s:c6 H H'):∀{v:V} {d:PyData},Sh H v d->Sh H' v d
 |_,_,.non=> .non
 |_,_,.bl b=> .bl b
 |_,_,.int i=> .int i
 |_,_,.str x=> .str x
 |_,_,.lst e h=> .lst (s _ _ e) (P1.keep s h)
 |_,_,.tup e h=> .tup (s _ _ e) (P1.keep s h)
theorem P1.keep {H H':Hp}(s:c6 H H'):∀{v:List V} {d:List PyData},P1 H v d->P1 H' v d
 |_,_,.nil=> .nil
 |_,_,.cons h hs=> .cons (Sh.keep s h) (P1.keep s hs)
end
mutual
theorem Sh.nodict {H:Hp}:∀{v:V} {d:PyData},Sh H v d->d.hasDict=false
 |_,_,.non=>by simp only[PyData.hasDict]
 |_,_,.bl b=>by simp only[PyData.hasDict]
 |_,_,.int i=>by simp only[PyData.hasDict]
 |_,_,.str x=>by simp only[PyData.hasDict]
 |_,_,.lst e h=>by simp only[PyData.hasDict];exact P1.nodict h
 |_,_,.tup e h=>by simp only[PyData.hasDict];exact P1.nodict h
theorem P1.nodict {H:Hp}:∀{v:List V} {d:List PyData},P1 H v d->PyData.hasDictAll d=false
 |_,_,.nil=>by simp only[PyData.hasDictAll]
 |_,_,.cons h hs=>by simp only[PyData.hasDictAll];rw[Sh.nodict h,P1.nodict hs];rfl
end
theorem bd7:∀(ts:List Str) (k:Nat) (acc:Str) (m:Nat),(∀t∈ts,t.length<=m)->(textFrom k acc ts).length<=acc.length+ts.length*(m+2)
 |[],k,acc,m,_=>by show acc.length<=_;omega
 |t::r,k,acc,m,h=>by
  have ih:=bd7 r (k+1) (acc++(if k > 0 then ", " else "":String)++t) m fun x hx=>h x (ee0 _ hx)
  have ht:=h t ed7
  have el:((acc++(if k > 0 then ", " else "":String)++t:Str)).length<=acc.length+2+t.length:=by
    rw[strLen_append,strLen_append]
    by_cases z:k > 0
    · rw[if_pos z];exact ed5 _
    · rw[if_neg z];have:(("":String):Str).length=0:=rfl;omega
  show (textFrom (k+1) (acc++(if k > 0 then ", " else "":String)++t) r).length<=_;rw[eg3,em0];omega
theorem cf6 {ts:List Str}{m:Nat}(h:∀t∈ts,t.length<=m):(listText ts).length<=2+ts.length*(m+2):=by
 unfold listText;rw[strLen_append];have:=bd7 ts 0 "[" m h;have e1:(("[":String):Str).length=1:=rfl;have e2:(("]":String):Str).length=1:=rfl;omega
def ShD (H:Hp)(v:V)(d:PyData):Prop:=(Sh H v d\/∃a,v= .ref a/\H a=some (.dK [])/\d= .dict [])/\d.showable=true/\d.shown.length<=sizeLine/\d.depth<=8
theorem ShD.keep {H H':Hp}{v:V}{d:PyData}(h:ShD H v d)(s:c6 H H'):ShD H' v d:=by
 obtain ⟨h|⟨a,e1,e2,e3⟩,r⟩:=h
 · exact ⟨.inl (h.keep s),r⟩
 · exact ⟨.inr ⟨a,e1,s _ _ e2,e3⟩,r⟩
section
variable {X:Cx} {p pos:Pos} {e:Expr} {t:TA}
def df7:List V->Hp->VK->Prop:=fun xs H Q=>∃v d,xs=[v]/\ShD H v d/\Q (.str d.shown) H
theorem cm5 (hu:X.A.units+16 < cLine)(hg:X.A.guards=some []):U7 X (.builtin "repr") df7:=by
 intro pins s σ H xs us Q I r h;obtain ⟨v,d,rfl,⟨hs,sh,le,dp⟩,q⟩:=h
 cases r with
 |cons r rr=>
 rename_i u _;cases rr
 have fin:∀tk0 tk,(EP X pins σ Q) (.str d.shown tk0) {s with toks:=tk}:=fun tk0 tk=>⟨.str d.shown,H,I.tok _,⟨_,rfl⟩,q⟩
 have onref:∀{a:Addr} {as:List Addr},u= .ref a->Reads s.heap (.ref a) d as->(d.hasDict=true->sysModules∉as)->wpAny (model X.prog X.w) X.A (call (.builtin "repr") [u]) (EP X pins σ Q) X.xe s:=fun {a as} eu rd hsm=>by
   subst eu;exact repr_of_reads' rd sh hsm hg (by omega) (fun _ _ q=>q) (fun h' u tk hk=>⟨.str d.shown,H,I.kept (t':=tk) hk,⟨_,rfl⟩,q⟩) le
 rcases hs with hs|⟨a,rfl,e,rfl⟩
 · have nd:=hs.nodict
   have hsm:∀as:List Addr,d.hasDict=true->sysModules∉as:=fun _ z=>by rw[nd] at z;cases z
   obtain ⟨as,rd⟩:=hs.reads I r
   cases hs with
   |non=>cases (show u=Value.none from r);exact PySem.P.repr_of_none (by simpa only[PyData.shown] using fin _ _)
   |bl b=>cases (show u=Value.bool b from r);exact PySem.P.repr_of_bool (by simpa only[PyData.shown] using fin _ _)
   |int i=>obtain ⟨t,rfl⟩:=r;exact PySem.P.repr_of_int (by simpa [PyData.showable] using sh) (by simpa only[PyData.shown] using fin _ _)
   |str x=>obtain ⟨t,rfl⟩:=r;exact PySem.P.repr_of_str (by simpa only[PyData.shown] using fin _ _) (by simpa only[PyData.shown] using le)
   |lst e h=>exact onref r (by have e:u=Value.ref _:=r;subst e;exact rd) (hsm _)
   |tup e h=>exact onref r (by have e:u=Value.ref _:=r;subst e;exact rd) (hsm _)
 · obtain ⟨hz,hS,vs,kv,o,es,ep,ho,hx,hd,hk,hp,hn⟩:=I.hok a _ e;cases kv
   have ee:es.toList=[]:=by
     cases hq:es.toList with
     |nil=>rfl
     |cons x xs=>rw[hq] at hp;cases hp
   exact onref r (.dict (kvs:=[]) (as:=[]) (bs:=[]) ho hx.1 hd (by rw[ee];exact .nil) (by rw[ee];exact .nil)) (fun _ hm=>by
     have:sysModules=a:=by simpa using hm
     rw[this] at hS
     simp at hS)
theorem cm6:bootBuiltins "repr"=some (.builtin "repr"):=by decide+kernel
theorem ci5 (hu:X.A.units+16 < cLine)(hg0:X.A.guards=some [])(hm:X.mg "repr"=none)(ha:PA X [e] t)(hg:Gl X "repr":=by rfl)(he:starEach [e] X.env=(false,eval e X.env)::starEach [] X.env:=by rfl):
 PE X (.Call (.Name "repr" p) [e] [] pos) (tCB df7 t):=U9 (cm5 hu hg0) hg hm cm6 ha (by decide) (by decide) he rfl
end
end L2
namespace L2
open PySem PySem.Spec PyProof.Rows
def bf5 (a b:Sp):Sp:=fun vs H Q E=>a vs H Q E\/b vs H Q E
section
variable {P:Program} {w:World} {K:PySem.W.Frag} {mg:Str->Option Value} {base:Heap} {CX:CXT} {k:Nat} {f:Addr} {fd:FuncData} {ps:List Str} {a b:Sp}
theorem df8 (x:m9 P w K mg base CX k f fd ps a)(y:m9 P w K mg base CX k f fd ps b):m9 P w K mg base CX k f fd ps (bf5 a b):=
 ⟨fun vs H Q E h=>h.elim (x.len vs H Q E) (y.len vs H Q E),fun A outer s H args us vs Q E r e bt v h=>h.elim (x.run A outer s H args us vs Q E r e bt v) (y.run A outer s H args us vs Q E r e bt v)⟩
theorem df9 {x:Str}(c:o4 P w K mg base x k ps (bf5 a b)):o4 P w K mg base x k ps a:=by
 obtain ⟨f,fd,h1,h2,h3,h4⟩:=c;exact ⟨f,fd,h1,h2,h3,h4.imp fun vs H Q E z=> .inl z⟩
end
theorem Q9 (K:PySem.W.Frag){a b:String}(h0:((Value.type a==Value.type b)=true)->False)(h1:PySem.W.kitMeta b=true)(h2:(fastBuiltinMro a).map (·.contains (Value.type b))=some false):PySem.W.kitOne K (.type a) (.type b)=some false:=by
 unfold PySem.W.kitOne PySem.W.kitCls;rw[if_neg h0];show (if PySem.W.kitMeta b=true then (fastBuiltinMro a).map (·.contains (Value.type b)) else none)=some false;rw[if_pos h1];exact h2
theorem bz7 (K:PySem.W.Frag):PySem.W.kitOne K (.type "NoneType") (.type "int")=some false:=Q9 K (by decide+kernel) (by decide+kernel) (by decide+kernel)
theorem bu4 (K:PySem.W.Frag):PySem.W.kitOne K (.type "NoneType") (.type "bool")=some false:=Q9 K (by decide+kernel) (by decide+kernel) (by decide+kernel)
theorem bu5 (K:PySem.W.Frag):PySem.W.kitOne K (.type "NoneType") (.type "list")=some false:=Q9 K (by decide+kernel) (by decide+kernel) (by decide+kernel)
theorem cf7 (K:PySem.W.Frag):PySem.W.kitOne K (.type "str") (.type "int")=some false:=Q9 K (by decide+kernel) (by decide+kernel) (by decide+kernel)
theorem bz8 (K:PySem.W.Frag):PySem.W.kitOne K (.type "str") (.type "bool")=some false:=Q9 K (by decide+kernel) (by decide+kernel) (by decide+kernel)
theorem bz9 (K:PySem.W.Frag):PySem.W.kitOne K (.type "str") (.type "list")=some false:=Q9 K (by decide+kernel) (by decide+kernel) (by decide+kernel)
theorem ca0 (K:PySem.W.Frag):PySem.W.kitOne K (.type "list") (.type "int")=some false:=Q9 K (by decide+kernel) (by decide+kernel) (by decide+kernel)
theorem bu6 (K:PySem.W.Frag):PySem.W.kitOne K (.type "list") (.type "bool")=some false:=Q9 K (by decide+kernel) (by decide+kernel) (by decide+kernel)
theorem bu7 (K:PySem.W.Frag):PySem.W.kitOne K (.type "tuple") (.type "int")=some false:=Q9 K (by decide+kernel) (by decide+kernel) (by decide+kernel)
theorem bn5 (K:PySem.W.Frag):PySem.W.kitOne K (.type "tuple") (.type "bool")=some false:=Q9 K (by decide+kernel) (by decide+kernel) (by decide+kernel)
theorem bn6 (K:PySem.W.Frag):PySem.W.kitOne K (.type "tuple") (.type "list")=some false:=Q9 K (by decide+kernel) (by decide+kernel) (by decide+kernel)
theorem bu8 (K:PySem.W.Frag):PySem.W.kitOne K (.type "dict") (.type "list")=some false:=Q9 K (by decide+kernel) (by decide+kernel) (by decide+kernel)
theorem ca1 (K:PySem.W.Frag):PySem.W.kitOne K (.type "int") (.type "list")=some false:=Q9 K (by decide+kernel) (by decide+kernel) (by decide+kernel)
theorem bu9 (K:PySem.W.Frag):PySem.W.kitOne K (.type "bool") (.type "list")=some false:=Q9 K (by decide+kernel) (by decide+kernel) (by decide+kernel)
end L2
namespace L2
open PySem PySem.Spec PyProof.Rows
section
variable {X:Cx} {p pos:Pos} {e:Expr} {t:TA}
theorem dj4 (K:PySem.W.Frag)(n:Nat)(hu:X.A.units+n+1 < cLine)(hK:X.K=K:=by rfl):R7 X (compareOp .NotEq) (da6 K n true):=by
 subst hK;exact ac6 n hu
def dj5 (K:PySem.W.Frag)(t:TA):TE:=tCB (fun xs H Q=>∃(p:Addr) (ns:List Int),xs=[.ref p]/\g9 K H p (ns.map V.int)/\ns.length < 64/\∀(ms:List Int) l,ms.Perm ns->ms.Pairwise (· <= ·)->H l=none->Q (.ref l) (c9 H l (.lst (ms.map V.int)))) t
theorem cm7 (K:PySem.W.Frag)(hm:X.mg "sorted"=none)(ha:PA X [e] t)(hK:X.K=K:=by rfl)(hg:Gl X "sorted":=by rfl)(he:starEach [e] X.env=(false,eval e X.env)::starEach [] X.env:=by rfl):
   PE X (.Call (.Name "sorted" p) [e] [] pos) (dj5 K t):=by
 subst hK;exact cs7 hm ha hg he
end
end L2
namespace L2
open PySem PySem.Spec PyProof.Rows
def ae9 (H H':Hp):Hp:=fun a=>match H a with
 |none=>H' a
 |some _=>none
theorem X5 {H H':Hp}{a:Addr}{o:HO}(h:ae9 H H' a=some o):H a=none/\H' a=some o:=by
 unfold ae9 at h
 cases e:H a with
 |none=>rw[e] at h;exact ⟨rfl,h⟩
 |some x=>rw[e] at h;cases h
theorem bb7 {H H':Hp}{a:Addr}{o:HO}(h0:H a=none)(h:H' a=some o):ae9 H H' a=some o:=by
 unfold ae9;rw[h0];exact h
theorem bj7 {H H1 H2:Hp}(s:c6 H1 H2):c6 (ae9 H H1) (ae9 H H2):=fun a o h=>bb7 (X5 h).1 (s _ _ (X5 h).2)
theorem cu4 {H H1 H2:Hp}(s:c6 H H1):c6 (ae9 H1 H2) (ae9 H H2):=fun a o h=>bb7 (s.free (X5 h).1) (X5 h).2
theorem P1.length {H:Hp}:∀{xs:List V} {ds:List PyData},P1 H xs ds->xs.length=ds.length
 |_,_,.nil=>rfl
 |_,_,.cons _ h=>congrArg Nat.succ h.length
def ab2 (f:Expr->Option PyData):List Expr->Option (List PyData)
 |[]=>some []
 |e::es=>(f e).bind fun d=>(ab2 f es).map (d:: ·)
theorem ao8 {f:Expr->Option PyData}:∀{es:List Expr} {ds:List PyData},ab2 f es=some ds->ds.length=es.length
 |[],ds,h=>by cases (Option.some.inj h);rfl
 |e::es,ds,h=>by
  obtain ⟨d,hd,h⟩:=es5.mp h;obtain ⟨r,hr,rfl⟩:=em9.mp h;exact congrArg Nat.succ (ao8 hr)
def R0:Nat->Expr->Option PyData
 |0,_=>none
 |_+1,.Constant .none _ _=>some .none
 |_+1,.Constant (.bool b) _ _=>some (.bool b)
 |_+1,.Constant (.int i) _ _=>some (.int i)
 |_+1,.Constant (.str x) _ _=>some (.str x)
 |n+1,.UnaryOp .USub e _=>match R0 n e with
  |some (.int i)=>some (.int (-i))
  |_=>none
 |n+1,.BinOp a .Pow b _=>match R0 n a,R0 n b with
  |some (.int i),some (.int j)=>if 0<=j/\j<=1000000/\i.natAbs < 2^64 then some (.int (i^j.toNat)) else none
  |_,_=>none
 |n+1,.List es _=>if es.length<=1000 then (ab2 (R0 n) es).map .list else none
 |n+1,.Tuple es _ _=>if es.length<=1000 then (ab2 (R0 n) es).map .tuple else none
 |_+1,_=>none
def dg0 (d:PyData):TE:=fun _ H Q=>∀v H',c6 H H'->Sh (ae9 H H') v d->Q v H'
def cu5 (ds:List PyData):TA:=fun _ H Q=>∀xs H',c6 H H'->P1 (ae9 H H') xs ds->Q xs H'
theorem bs2 {env:Env}{es:List Expr}:∀{n:Nat} {e:Expr} {d:PyData},R0 n e=some d->starEach (e::es) env=(false,eval e env)::starEach es env
 |0,_,_,h=>by cases h
 |n+1,e,d,h=>by
  unfold R0 at h
  split at h
  all_goals first
    |rfl
    |cases h
theorem au4 {X:Cx}{n:Nat}(hf:∀(e:Expr) (d:PyData),R0 n e=some d->PE X e (dg0 d)):∀{es:List Expr} {ds:List PyData},ab2 (R0 n) es=some ds->PA X es (cu5 ds)
 |[],ds,h=>by
  cases (Option.some.inj h)
  exact fun pos pins s σ H Q I h=>j8 pos pins s σ H Q I (h [] H (c6.refl H) .nil)
 |e::es,ds,h=>by
  obtain ⟨d,hd,h⟩:=es5.mp h;obtain ⟨r,hr,rfl⟩:=em9.mp h
  refine fun pos pins s σ H Q I h=>e7 (hf e d hd) (au4 hf hr) (bs2 hd) pos pins s σ H Q I ?_
  intro v H1 s1 sh xs H2 s2 sa;exact h (v::xs) H2 (s1.trans s2) (.cons (sh.keep (bj7 s2)) (sa.keep (cu4 s1)))
theorem bn7 {X:Cx}:∀(n:Nat) (e:Expr) (d:PyData),R0 n e=some d->PE X e (dg0 d)
 |0,_,_,h=>by cases h
 |n+1,e,d,h=>by
  have ih:=fun e d=>bn7 (X:=X) n e d
  unfold R0 at h
  split at h
  · rename_i e0;cases e0
  · cases h;exact fun pins s σ H Q I h=>Z4 pins s σ H Q I (h _ _ (c6.refl H) .non)
  · cases h;exact fun pins s σ H Q I h=>K2 pins s σ H Q I (h _ _ (c6.refl H) (.bl _))
  · cases h;exact fun pins s σ H Q I h=>h8 pins s σ H Q I (h _ _ (c6.refl H) (.int _))
  · cases h;exact fun pins s σ H Q I h=>G3 pins s σ H Q I (h _ _ (c6.refl H) (.str _))
  · rename_i e0;obtain rfl:=Nat.succ.inj e0
    split at h
    · rename_i i hi;cases h
      refine fun pins s σ H Q I h=>aj2 ac2 (ih _ _ hi) pins s σ H Q I fun v H' s' sh=> ?_
      cases sh;exact ⟨i,rfl,h _ _ s' (.int _)⟩
    · cases h
  · rename_i e0;obtain rfl:=Nat.succ.inj e0
    split at h
    · rename_i i j hi hj
      split at h
      · rename_i hc;cases h
        refine fun pins s σ H Q I h=>i6 bh7 (ih _ _ hi) (ih _ _ hj) pins s σ H Q I fun v H1 s1 sh=> ?_
        cases sh;intro v2 H2 s2 sh2;cases sh2;exact ⟨i,j,rfl,rfl,hc,h _ _ (s1.trans s2) (.int _)⟩
      · cases h
    · cases h
  · rename_i e0;obtain rfl:=Nat.succ.inj e0
    split at h
    · rename_i hl;obtain ⟨ds,hd,rfl⟩:=em9.mp h
      refine fun pins s σ H Q I h=>o5 (au4 ih hd) pins s σ H Q I fun xs H1 s1 sa=>⟨?_,fun p hp=> ?_⟩
      · rw[sa.length,ao8 hd,sizeLine_eq];omega
      · have s2:c6 H1 (c9 H1 p (.lst xs)):=c6.upd_new hp;exact h _ _ (s1.trans s2) (.lst (bb7 (s1.free hp) c7) (sa.keep (bj7 s2)))
    · cases h
  · rename_i e0;obtain rfl:=Nat.succ.inj e0
    split at h
    · rename_i hl;obtain ⟨ds,hd,rfl⟩:=em9.mp h
      refine fun pins s σ H Q I h=>ah1 (au4 ih hd) pins s σ H Q I fun xs H1 s1 sa=>⟨?_,fun p hp=> ?_⟩
      · rw[sa.length,ao8 hd,sizeLine_eq];omega
      · have s2:c6 H1 (c9 H1 p (.tup xs)):=c6.upd_new hp;exact h _ _ (s1.trans s2) (.tup (bb7 (s1.free hp) c7) (sa.keep (bj7 s2)))
    · cases h
  · cases h
theorem bb8 {X:Cx}(n:Nat){es:List Expr}(ds:List PyData)(h:ab2 (R0 n) es=some ds):PA X es (cu5 ds):=au4 (bn7 n) h
def cu6 (ds:List PyData)(t:TA):TA:=fun σ H Q=>∀xs H',c6 H H'->P1 (ae9 H H') xs ds->t σ H' fun ys H2=>Q (xs++ys) H2
theorem cu7 {X:Cx}(n:Nat):∀{es fs:List Expr} {t:TA} (ds:List PyData),ab2 (R0 n) es=some ds->PA X fs t->PA X (es++fs) (cu6 ds t)
 |[],fs,t,ds,h,hf=>by
  cases (Option.some.inj h)
  exact fun pos pins s σ H Q I h=>hf pos pins s σ H Q I (h [] H (c6.refl H) .nil)
 |e::es,fs,t,ds,h,hf=>by
  obtain ⟨d,hd,h⟩:=es5.mp h;obtain ⟨r,hr,rfl⟩:=em9.mp h
  refine fun pos pins s σ H Q I h=>e7 (bn7 n e d hd) (cu7 n r hr hf) (bs2 hd) pos pins s σ H Q I ?_
  intro v H1 s1 sh xs H2 s2 sa;exact h (v::xs) H2 (s1.trans s2) (.cons (sh.keep (bj7 s2)) (sa.keep (cu4 s1)))
theorem bf6 {X:Cx}(n k:Nat){es:List Expr}{t:TA}(ds:List PyData)(h:ab2 (R0 n) (es.take k)=some ds)(hf:PA X (es.drop k) t):PA X es (cu6 ds t):=by
 have:=cu7 n ds h hf;rw[ei8] at this;exact this
end L2
namespace L2
open PySem PySem.Spec PyProof.Rows
section
variable {X:Cx}
theorem db9 {e:Expr}:PE X e (fun _ _ _=>False):=fun _ _ _ _ _ _ h=>h.elim
end
end L2
namespace HT
open PySem PySem.Spec PyProof.Rows
open PySem.AutoSeq1
open PySem.MeetsSeq PySem.MeetsSeq2 PySem.MeetsSeq3
theorem bn8 {xs:Array Value}{i:Nat}{x:Value}{r:List Value}(h:xs.toList.drop i=x::r):xs[((i:Nat):Int).toNat]? =some x/\xs.toList.drop (i+1)=r/\i < xs.size:=by
 have hl:i < xs.size:=by
   rcases ex1 i xs.size with z|z
   · exact z
   · rw[List.drop_of_length_le (by simpa using z)] at h;cases h
 refine ⟨?_,?_,hl⟩
 · rw[ej1,<-ei0];have:=congrArg List.head? h;rw[List.head?_drop] at this
   simpa using this
 · have:=congrArg List.tail h;rw[List.tail_drop] at this;exact this
theorem ca2 {xs:Array Value}{i:Nat}(h:xs.toList.drop i=[]):xs[((i:Nat):Int).toNat]? =none/\xs.size<=i:=by
 have hl:xs.size<=i:=by
   have:=congrArg ex9 h;rw[eg5] at this;simp at this;omega
 exact ⟨by rw[ej1];simp [hl],hl⟩
abbrev cm8 (h:Heap)(a:Addr)(xs:Array Value)(n:Nat):Prop:=h.get? a=some {cls:= .type "list",dict:=none,data:= .seq xs n,slots:= #[]}
theorem dj6 (l b:Addr)(items items2:Array Value)(n n2:Nat):∀(ns ms:List Int) (vs ws:List Value) (i:Nat),IntsAre vs ns->IntsAre ws ms->items.toList.drop i=vs->items2.toList.drop i=ws->i<=items.size->i<=items2.size->
   Meets (Builtin.«list.__eq__.loop» ⟨[.ref l,.ref b,rawInt i,rawInt 0],[]⟩)
     (fun _ R s=>(cm8 s.heap l items n/\cm8 s.heap b items2 n2)/\R (.ok (.ret (.bool (bb3 ns ms)))) s):=by
 intro ns
 induction ns with
 |nil=>
  intro ms vs ws i hv hw e1 e2 i1 i2 prog w A R s h;obtain ⟨h0,g0,d0,k0,o0⟩:=s;obtain ⟨⟨hx,hy⟩,h⟩:=h;cases hv;obtain ⟨g1,z1⟩:=ca2 e1
  wp_walk using wpAny_loadPart' hx,wpAny_loadPart' hy
  rw[g1]
  cases hw with
  |nil=>
   obtain ⟨g2,z2⟩:=ca2 e2
   wp_walk using wpAny_loadPart' hx,wpAny_loadPart' hy
   show R (.ok (.ret (.bool (decide (items.size < items2.size))))) _;rw[decide_eq_false (by omega)];exact h
  |cons c u hw'=>
   obtain ⟨g2,_,z2⟩:=bn8 e2
   wp_walk using wpAny_loadPart' hx,wpAny_loadPart' hy
   show R (.ok (.ret (.bool (decide (items.size < items2.size))))) _;rw[decide_eq_true (by omega)];exact h
 |cons a ns ih=>
  intro ms vs ws i hv hw e1 e2 i1 i2 prog w A R s h;obtain ⟨h0,g0,d0,k0,o0⟩:=s;obtain ⟨⟨hx,hy⟩,h⟩:=h
  cases hv with
  |cons _ t hv'=>
   obtain ⟨g1,d1,z1⟩:=bn8 e1
   wp_walk using wpAny_loadPart' hx,wpAny_loadPart' hy
   rw[g1]
   cases hw with
   |nil=>
    obtain ⟨g2,z2⟩:=ca2 e2;rw[g2]
    wp_walk using wpAny_loadPart' hx,wpAny_loadPart' hy
    show R (.ok (.ret (.bool (decide (items.size < items2.size))))) _;rw[decide_eq_false (by omega)];exact h
   |cons c u hw'=>
    obtain ⟨g2,d2,z2⟩:=bn8 e2;rw[g2];rw[cl6] at h;obtain ⟨e,he,hiff⟩:=cz7 A.in1 ⟨h0,g0,d0,k0,o0⟩ a t c u;refine wpAny_bind (he prog w _ _ ?_)
    cases e with
    |true=>
     rw[if_pos (hiff.mp rfl)] at h
     wp_walk
     rw[show ((i:Int)+1)=((i+1:Nat):Int) from rfl];refine ⟨plainId_quiet plain_eq_loop _,codeAny_builtin entry_eq_loop ?_⟩
     (rw[Around.under_plainId plain_eq_loop _];exact ih _ _ _ (i+1) hv' hw' d1 d2 (by omega) (by omega) prog w A R _ ⟨⟨hx,hy⟩,h⟩)
    |false=>
     rw[if_neg (fun q=>absurd (hiff.mpr q) ef3)] at h;have less:=cz8 A.in1 ⟨h0,g0,d0,k0,o0⟩ a t c u prog w
     wp_walk using wpAny_loadPart' hx,wpAny_loadPart' hy
     rw[g1,g2]
     wp_walk using less
     exact h
theorem dr3 (l b:Addr)(items items2:Array Value)(n n2:Nat)(ns ms:List Int)(hi:IntsAre items.toList ns)(hj:IntsAre items2.toList ms):
   Meets (Builtin.«list.__lt__» ⟨[.ref l,.ref b],[]⟩)
     (fun _ R s=>(cm8 s.heap l items n/\cm8 s.heap b items2 n2)/\R (.ok (.ret (.bool (bb3 ns ms)))) s):=by
 intro prog w A R s h;obtain ⟨h0,g0,d0,k0,o0⟩:=s;obtain ⟨⟨hx,hy⟩,h⟩:=h;have sub:=AutoSeq1.sub_list_list
 wp_walk using wpAny_loadPart' hx,wpAny_loadPart' hy
 refine ⟨plainId_quiet plain_eq_loop _,codeAny_builtin entry_eq_loop ?_⟩
 (rw[Around.under_plainId plain_eq_loop _];exact dj6 l b items items2 n n2 ns ms _ _ 0 hi hj rfl rfl (ef5 _) (ef5 _) prog w A R _ ⟨⟨hx,hy⟩,h⟩)
end HT
namespace L2
open PySem PySem.Spec PyProof.Rows
section
variable {prog:Program} {w:World} {A:Around} {E:Value->Shared->Prop} {s:Shared}
def an8 (h:Heap)(v:Value)(ns:List Int):Prop:=∃p xs n,v= .ref p/\HT.cm8 h p xs n/\IntsAre xs.toList ns
theorem bj8 {α β:Type}{f:α->Sem β}(g:α->β):∀{vs:List α} {Q:List β->Shared->Prop},(∀v,v∈vs->∀R:β->Shared->Prop,R (g v) s->wpAny (model prog w) A (f v) R E s)->Q (vs.map g) s->wpAny (model prog w) A (vs.mapM f) Q E s
 |[],Q,_,q=>by rw[List.mapM_nil];exact wpAny_pure q
 |v::vs,Q,k,q=>by
  rw[List.mapM_cons];refine wpAny_bind (k v (ed7 ..) _ ?_);refine wpAny_bind (bj8 g (fun u hu=>k u (ee0 _ hu)) ?_);exact wpAny_pure q
theorem ca3 {α β:Type}{f:α->Sem β}(g:α->β){vs:List α}{Q:Array β->Shared->Prop}(k:∀v,v∈vs->∀R:β->Shared->Prop,R (g v) s->wpAny (model prog w) A (f v) R E s)(q:Q (vs.map g).toArray s):wpAny (model prog w) A (vs.toArray.mapM f) Q E s:=by
 rw[List.mapM_toArray,map_eq_pure_bind];exact wpAny_bind (bj8 g k (wpAny_pure q))
theorem cm9 (v:Value):firstOfTuple' v=(do
 if (<-typeOf v)!= .type "tuple" then return none
 return (<-Builtin.List.listItems v)[0]?):=rfl
theorem cu8 {v:Value}{ns:List Int}(r:an8 s.heap v ns){Q:Option Value->Shared->Prop}(k:Q none s):wpAny (model prog w) A (firstOfTuple' v) Q E s:=by
 obtain ⟨p,xs,n,rfl,ox,ix⟩:=r;rw[cm9];refine wpAny_bind (wpAny_typeOf (T:="list") ⟨_,ox,rfl⟩ ?_);rw[if_pos (by decide)];exact wpAny_pure k
theorem dc0 {v:Value}{ns:List Int}(r:an8 s.heap v ns){Q:Value->Shared->Prop}(k:Q (.type "list") s):wpAny (model prog w) A (typeOf v) Q E s:=by
 obtain ⟨p,xs,n,rfl,ox,ix⟩:=r;exact wpAny_typeOf (T:="list") ⟨_,ox,rfl⟩ k
theorem cu9 {v₁ v₂:Value}{vs:List Value}{Q:SortKind->Shared->Prop}(r:∀v,v∈v₁::v₂::vs->∃ns,an8 s.heap v ns)(k:Q oneType' s):wpAny (model prog w) A (keyKind' (v₁::v₂::vs).toArray) Q E s:=by
 rw[keyKind'_eq];refine wpAny_bind (ca3 (fun _=>none) (fun v hv R q=>by obtain ⟨ns,z⟩:=r v hv;exact cu8 z q) ?_);rw[if_neg (by simp),if_neg (by simp)];rw[oneTypeOnly'_eq];refine wpAny_bind (wpAny_bind (ca3 (fun _=>Value.type "list") (fun v hv R q=>by obtain ⟨ns,z⟩:=r v hv;exact dc0 z q) ?_))
 have h0:(List.map (fun _=>Value.type "list") (v₁::v₂::vs)).toArray[0]? =some (Value.type "list"):=by simp
 rw[h0]
 dsimp only
 rw[if_pos (by
   simp only[List.all_toArray,List.all_map,el8];intro _ _
   rfl)]
 exact wpAny_pure (wpAny_pure k)
theorem bs3 (vs:List Value):(pairsOf vs).map (·.2)=vs.toArray:=by
 apply Array.toList_inj.mp
 rw[ew6,pairsOf_toList];exact List.map_snd_zip (ed5 _)
end
end L2
namespace L2
open PySem PySem.Spec PyProof.Rows
def dw3 (i j:Int):Prop:=0 < j/\j.natAbs < 2^9000
theorem ca4 {X:Cx}:R7 X (binaryOp .FloorDiv) (rI dw3 fun i j=> .int (i/j)):=opI fun i j _ _ _ _ _ hc q=>by
 have hp:Builtin.divisionGoesByPylong i j=false:=PyProof.noPylong_of_log2 ((Nat.log2_lt (by have:=hc.1;omega)).mpr hc.2);refine floordiv_int (by have:=hc.1;omega) ?_ (.inl hp);rw[ev0 i (by have:=hc.1;omega)];exact q
end L2
namespace TS
open PySem PyProof.Rows
section
variable (rk:Keyed->Nat)
def R (xs:Array Keyed)(i:Nat):Nat:=match xs[i]? with
 |some p=>rk p
 |none=>0
def Up (xs:Array Keyed)(lo hi:Nat):Prop:=∀i j,lo<=i->i<=j->j < hi->R rk xs i<=R rk xs j
def bn9 (xs:Array Keyed)(lo hi:Nat):Prop:=∀i j,lo<=i->i<=j->j < hi->R rk xs j<=R rk xs i
end
def E9 (xs ys:Array Keyed)(lo hi:Nat):Prop:=∀k,k < lo\/hi<=k->ys[k]? =xs[k]?
theorem E9.refl (xs:Array Keyed)(lo hi:Nat):E9 xs xs lo hi:=fun _ _=>rfl
theorem E9.trans {xs ys zs:Array Keyed}{lo hi:Nat}(h:E9 xs ys lo hi)(g:E9 ys zs lo hi):E9 xs zs lo hi:=fun k hk=>(g k hk).trans (h k hk)
theorem E9.wide {xs ys:Array Keyed}{lo hi lo' hi':Nat}(h:E9 xs ys lo hi)(h1:lo'<=lo)(h2:hi<=hi'):E9 xs ys lo' hi':=fun k hk=>h k (by omega)
section
variable {rk:Keyed->Nat}
theorem bo0 {xs ys:Array Keyed}{i j:Nat}(h:xs[i]? =ys[j]?):R rk xs i=R rk ys j:=by unfold R;rw[h]
theorem E9.R {xs ys:Array Keyed}{lo hi k:Nat}(h:E9 xs ys lo hi)(hk:k < lo\/hi<=k):TS.R rk ys k=TS.R rk xs k:=bo0 (h k hk)
theorem E9.up {xs ys:Array Keyed}{lo hi a b:Nat}(h:E9 xs ys lo hi)(u:Up rk xs a b)(hk:b<=lo\/hi<=a):Up rk ys a b:=fun i j h1 h2 h3=>by
 rw[h.R (by omega),h.R (by omega)];exact u i j h1 h2 h3
theorem ca5 {xs:Array Keyed}{src d:Nat}(hs:src < xs.size)(hd:d<=src)(k:Nat):
   R rk (bubble xs src d) k=if k=src - d then R rk xs src else if src - d < k/\k<=src then R rk xs (k - 1) else R rk xs k:=by
 have e:=getElem?_bubble hs d hd k
 split
 · rename_i h;rw[if_pos h] at e;exact bo0 e
 · rename_i h;rw[if_neg h] at e
   split
   · rename_i h2;rw[if_pos h2] at e;exact bo0 e
   · rename_i h2;rw[if_neg h2] at e;exact bo0 e
theorem cf8 {xs:Array Keyed}{src d lo hi:Nat}(hs:src < xs.size)(hd:d<=src)(h1:lo<=src - d)(h2:src < hi):E9 xs (bubble xs src d) lo hi:=fun k hk=>by
 rw[getElem?_bubble hs d hd k,if_neg (by omega),if_neg (by omega)]
theorem bf7 {xs:Array Keyed}{i j:Nat}(hj:j<=xs.size)(k:Nat):R rk (mirror xs i j ((j - i)/2)) k=if i<=k/\k < j then R rk xs (i+j - 1 - k) else R rk xs k:=by
 have e:=getElem?_mirror_all (i:=i) hj k
 split
 · rename_i h;rw[if_pos h] at e;exact bo0 e
 · rename_i h;rw[if_neg h] at e;exact bo0 e
theorem ag8 {xs:Array Keyed}{i j lo hi:Nat}(hj:j<=xs.size)(h1:lo<=i)(h2:j<=hi):E9 xs (mirror xs i j ((j - i)/2)) lo hi:=fun k hk=>by
 rw[getElem?_mirror_all hj k,if_neg (by omega)]
theorem W2 {xs:Array Keyed}{i j:Nat}(hj:j<=xs.size)(h:∀k,i<=k->k < j->R rk xs k=R rk xs (j - 1))(k:Nat):R rk (mirror xs i j ((j - i)/2)) k=R rk xs k:=by
 rw[bf7 hj]
 split
 · rw[h _ (by omega) (by omega),h k (by omega) (by omega)]
 · rfl
end
structure Bs (a0:Array Keyed)(κ:SortKind)(st:SortSt):Prop where
 perm:(arrOf st).Perm a0
 kind:kindOf st=κ
 ok:failedOf st=none
theorem Bs.size {a0:Array Keyed}{κ:SortKind}{st:SortSt}(h:Bs a0 κ st):(arrOf st).size=a0.size:=h.perm.size_eq
theorem Bs.set {a0:Array Keyed}{κ:SortKind}{st:SortSt}(h:Bs a0 κ st){xs:Array Keyed}(hp:xs.Perm (arrOf st)):Bs a0 κ (setArr st xs):=⟨hp.trans h.perm,h.kind,h.ok⟩
theorem Bs.mem {a0:Array Keyed}{κ:SortKind}{st:SortSt}(h:Bs a0 κ st){i:Nat}(hi:i < a0.size):∃p,(arrOf st)[i]? =some p/\p∈a0.toList:=by
 have hi':i < (arrOf st).size:=by rw[h.size];exact hi
 exact ⟨(arrOf st)[i],getElem?_pos _ i hi',(en2.mp h.perm).mem_iff.mp (by simp)⟩
section
variable {prog:Program} {w:World} {A:Around} {E:Value->Shared->Prop} {s:Shared}
def Cm (prog:Program)(w:World)(A:Around)(s:Shared)(κ:SortKind)(rk:Keyed->Nat)(a0:Array Keyed):Prop:=
 ∀x∈a0.toList,∀y∈a0.toList,∀(Q:Bool->Shared->Prop) (E':Value->Shared->Prop),Q (decide (rk x < rk y)) s->wpAny (model prog w) A (keyLt' κ x.1 y.1) Q E' s
variable {rk:Keyed->Nat} {a0:Array Keyed} {κ:SortKind}
theorem bj9 {st:SortSt}{x y:Keyed}{Q:Option Bool->SortSt->Prop}(C:Cm prog w A s κ rk a0)(hk:kindOf st=κ)(hx:x∈a0.toList)(hy:y∈a0.toList)(h:Q (some (decide (rk x < rk y))) st):
   wpS (model prog w) A E s (lt' x y) Q st:=by
 rw[lt'_eq];refine wpS_bind (wpS_get ?_);rw[hk];exact wpS_bind (wpS_lift (wpAny_attempt (C x hx y hy _ _ ⟨rfl,wpS_pure h⟩)))
theorem ak2 {st:SortSt}{i j:Nat}{Q:Option Bool->SortSt->Prop}(C:Cm prog w A s κ rk a0)(B:Bs a0 κ st)(hi:i < a0.size)(hj:j < a0.size)(h:Q (some (decide (R rk (arrOf st) i < R rk (arrOf st) j))) st):
   wpS (model prog w) A E s (ltAt' i j) Q st:=by
 obtain ⟨x,ex,mx⟩:=B.mem hi;obtain ⟨y,ey,my⟩:=B.mem hj;rw[ltAt'_eq];refine wpS_bind (wpS_get ?_);show wpS _ _ _ _ (do let u <-elem' (arrOf st) i;let v <-elem' (arrOf st) j;lt' u v) Q st;rw[elem'_eq,elem'_eq,ex,ey];refine wpS_bind (wpS_pure (wpS_bind (wpS_pure (bj9 C B.kind mx my ?_))));unfold R at h;rw[ex,ey] at h;exact h
theorem bk0 {st:SortSt}{i j:Nat}{Q:Unit->SortSt->Prop}(h:Q () (setArr st (mirror (arrOf st) i j ((j - i)/2)))):wpS (model prog w) A E s (reverseSlice' i j) Q st:=by
 rw[reverseSlice'_eq];exact wpS_modify h
theorem dr4 {st:SortSt}{lo n ok:Nat}{Q:Bool->SortSt->Prop}(C:Cm prog w A s κ rk a0)(hn:lo+n<=a0.size)(hok:ok<=n)(B:Bs a0 κ st)(hs:Up rk (arrOf st) lo (lo+ok))
   (h:∀st',Bs a0 κ st'->Up rk (arrOf st') lo (lo+n)->E9 (arrOf st) (arrOf st') lo (lo+n)->pendingOf st'=pendingOf st->Q true st'):wpS (model prog w) A E s (binarySort' lo n ok) Q st:=by
 rw[binarySort'_eq]
 refine wpS_bind (wpS_mono (wpS_forRange (I:=fun k c t=>c=(none,())/\Bs a0 κ t/\Up rk (arrOf t) lo (lo+min k n)/\E9 (arrOf st) (arrOf t) lo (lo+n)/\pendingOf t=pendingOf st)
   (Q:=fun c t=>c=(none,())/\Bs a0 κ t/\Up rk (arrOf t) lo (lo+n)/\E9 (arrOf st) (arrOf t) lo (lo+n)/\pendingOf t=pendingOf st) ?step ?fin ?init) ?post)
 case post=>
   rintro c t ⟨rfl,B',u,k,p⟩;exact wpS_pure (h t B' u k p)
 case init=>
   refine ⟨rfl,B,fun i j h1 h2 h3=> ?_,E9.refl _ _ _,rfl⟩
   by_cases z:ok=0
   · have:i=j:=by omega
     rw[this];exact ed5 _
   · exact hs i j h1 h2 (by omega)
 case fin=>
   rintro c t ⟨hc,B',u,k,p⟩;refine ⟨hc,B',?_,k,p⟩
   rwa [show min (max (max ok 1) n) n=n by omega] at u
 case step=>
   rintro k c t h1 h2 ⟨rfl,B',u,kp,pe⟩;rw[show min k n=k by omega] at u
   refine wpS_bind (wpS_mono (wpS_forRange (I:=fun x c t'=>t'=t/\∃l r,c=(none,l,r)/\l<=r/\r<=k/\r - l<=k - x/\
       (∀i,i < l->R rk (arrOf t) (lo+i)<=R rk (arrOf t) (lo+k))/\(∀i,r<=i->i < k->R rk (arrOf t) (lo+k) < R rk (arrOf t) (lo+i)))
     (Q:=fun c t'=>t'=t/\∃l r,c=(none,l,r)/\l<=k/\(∀i,i < l->R rk (arrOf t) (lo+i)<=R rk (arrOf t) (lo+k))/\(∀i,l<=i->i < k->R rk (arrOf t) (lo+k) < R rk (arrOf t) (lo+i))) ?st2 ?fin2 ?init2) ?post2)
   case init2=>exact ⟨rfl,0,k,rfl,by omega,by omega,by omega,fun i hi=>by omega,fun i h1 h2=>by omega⟩
   case fin2=>
     rintro c t' ⟨rfl,l,r,rfl,a1,a2,a3,a4,a5⟩
     have:l=r:=by omega
     subst this;exact ⟨rfl,l,l,rfl,a2,a4,a5⟩
   case st2=>
     rintro x c t' _ hx ⟨rfl,l,r,rfl,a1,a2,a3,a4,a5⟩
     dsimp only
     by_cases z:l≥r
     · rw[if_pos z]
       have:l=r:=by omega
       subst this;exact wpS_pure ⟨rfl,l,l,rfl,a2,a4,a5⟩
     · rw[if_neg z];refine wpS_bind (ak2 C B' (by omega) (by omega) ?_)
       by_cases y:R rk (arrOf t') (lo+k) < R rk (arrOf t') (lo+(l+r)/2)
       · simp only[y,decide_true,if_true];refine wpS_pure ⟨rfl,l,(l+r)/2,rfl,by omega,by omega,by omega,a4,fun i b1 b2=> ?_⟩;have:=u (lo+(l+r)/2) (lo+i) (by omega) (by omega) (by omega);omega
       · simp only[y,decide_false,el7,if_false];refine wpS_pure ⟨rfl,(l+r)/2+1,r,rfl,by omega,by omega,by omega,fun i b1=> ?_,a5⟩;have:=u (lo+i) (lo+(l+r)/2) (by omega) (by omega) (by omega);omega
   case post2=>
     rintro c t' ⟨rfl,l,r,rfl,a1,a2,a3⟩;show wpS _ _ _ _ (do moveDown' (lo+k) (lo+l);pure (ForInStep.yield (none,()))) _ _;rw[moveDown'_eq]
     have hz:lo+k < (arrOf t').size:=by rw[B'.size];omega
     refine wpS_bind (wpS_modify (wpS_pure ⟨rfl,B'.set (bubble_perm _ _ _),?_,kp.trans (cf8 hz (by omega) (by omega) (by omega)),pe⟩));rw[show min (k+1) n=k+1 by omega];intro i j b1 b2 b3;show R rk (bubble (arrOf t') (lo+k) (lo+k - (lo+l))) i<=R rk (bubble (arrOf t') (lo+k) (lo+k - (lo+l))) j
     have f1:∀i,lo<=i->i < lo+l->R rk (arrOf t') i<=R rk (arrOf t') (lo+k):=fun i c1 c2=>by have:=a2 (i - lo) (by omega);rwa [show lo+(i - lo)=i by omega] at this
     have f2:∀i,lo+l<=i->i < lo+k->R rk (arrOf t') (lo+k) < R rk (arrOf t') i:=fun i c1 c2=>by have:=a3 (i - lo) (by omega) (by omega);rwa [show lo+(i - lo)=i by omega] at this
     rw[ca5 hz (by omega),ca5 hz (by omega),show lo+k - (lo+k - (lo+l))=lo+l by omega]
     repeat' split
     all_goals first
       |(exfalso;omega)
       |exact ed5 _
       |exact f1 _ (by omega) (by omega)
       |exact eh1 (f2 _ (by omega) (by omega))
       |exact u _ _ (by omega) (by omega) (by omega)
end
end TS
namespace TS
open PySem PyProof.Rows
section
variable {prog:Program} {w:World} {A:Around} {E:Value->Shared->Prop} {s:Shared}
variable {rk:Keyed->Nat} {a0:Array Keyed} {κ:SortKind}
theorem cv0 {xs:Array Keyed}{lo x:Nat}(u:Up rk xs lo (lo+x))(x1:1<=x)(h:¬R rk xs (lo+x) < R rk xs (lo+x - 1)):Up rk xs lo (lo+(x+1)):=fun i j h1 h2 h3=>by
 by_cases hj:j < lo+x
 · exact u i j h1 h2 hj
 · have e:j=lo+x:=by omega
   subst e
   by_cases hi:i=lo+x
   · rw[hi];exact ed5 _
   · have:=u i (lo+x - 1) h1 (by omega) (by omega);omega
theorem al4 {xs:Array Keyed}{lo x:Nat}(u:bn9 rk xs lo (lo+x))(x1:1<=x)(h:R rk xs (lo+x)<=R rk xs (lo+x - 1)):bn9 rk xs lo (lo+(x+1)):=fun i j h1 h2 h3=>by
 by_cases hj:j < lo+x
 · exact u i j h1 h2 hj
 · have e:j=lo+x:=by omega
   subst e
   by_cases hi:i=lo+x
   · rw[hi];exact ed5 _
   · have:=u i (lo+x - 1) h1 (by omega) (by omega);omega
def dc1 (a0:Array Keyed)(κ:SortKind)(rk:Keyed->Nat)(lo nrem:Nat)(st:SortSt)(r:Option Nat)(t:SortSt):Prop:=
 ∃m,r=some m/\Bs a0 κ t/\1<=m/\m<=nrem/\Up rk (arrOf t) lo (lo+m)/\E9 (arrOf st) (arrOf t) lo (lo+nrem)/\pendingOf t=pendingOf st
theorem dr5 {st:SortSt}{lo nrem:Nat}(C:Cm prog w A s κ rk a0)(hn:lo+nrem<=a0.size)(n1:1<=nrem)(B:Bs a0 κ st):wpS (model prog w) A E s (countRun' lo nrem) (dc1 a0 κ rk lo nrem st) st:=by
 rw[countRun'_eq]
 refine wpS_bind (wpS_mono (wpS_forRange (I:=fun x c t=>t=st/\c=(none,x)/\Up rk (arrOf st) lo (lo+x))
   (Q:=fun c t=>t=st/\∃n,c=(none,n)/\1<=n/\n<=nrem/\Up rk (arrOf st) lo (lo+n)/\(n=nrem\/R rk (arrOf st) (lo+n) < R rk (arrOf st) (lo+n - 1))) ?step ?fin
   ⟨rfl,rfl,fun i j h1 h2 h3=>by rw[show i=j by omega];exact ed5 _⟩) ?post)
 case fin=>
   rintro c t ⟨rfl,rfl,u⟩;rw[show max 1 nrem=nrem by omega] at u ⊢;exact ⟨rfl,nrem,rfl,n1,ed5 _,u,.inl rfl⟩
 case step=>
   rintro x c t x1 xn ⟨rfl,rfl,u⟩
   dsimp only
   refine wpS_bind (ak2 C B (by omega) (by omega) ?_)
   by_cases y:R rk (arrOf t) (lo+x) < R rk (arrOf t) (lo+x - 1)
   · simp only[y,decide_true,if_true];exact wpS_pure ⟨rfl,x,rfl,x1,by omega,u,.inr y⟩
   · simp only[y,decide_false,el7,if_false];exact wpS_pure ⟨rfl,rfl,cv0 u x1 y⟩
 case post=>
   rintro c t ⟨rfl,n,rfl,m1,mn,u,hor⟩
   dsimp only
   by_cases z:n=nrem
   · rw[if_pos (by simpa using z)];exact wpS_pure ⟨n,rfl,B,m1,mn,u,E9.refl _ _ _,rfl⟩
   · rw[if_neg (by simpa using z)];have lt:=hor.resolve_left z
     suffices D:∀t',Bs a0 κ t'->bn9 rk (arrOf t') lo (lo+(n+1))->E9 (arrOf t) (arrOf t') lo (lo+nrem)->pendingOf t'=pendingOf t->wpS (model prog w) A E s _ (dc1 a0 κ rk lo nrem t) t' by
       by_cases g:n > 1
       · rw[if_pos g];refine wpS_bind (ak2 C B (by omega) (by omega) ?_)
         by_cases y:R rk (arrOf t) lo < R rk (arrOf t) (lo+n - 1)
         · simp only[y,decide_true,if_true];exact wpS_pure ⟨n,rfl,B,m1,mn,u,E9.refl _ _ _,rfl⟩
         · simp only[y,decide_false,el7,if_false]
           have hz:lo+n<=(arrOf t).size:=by rw[B.size];omega
           have all:∀k,lo<=k->k < lo+n->R rk (arrOf t) k=R rk (arrOf t) (lo+n - 1):=fun k h1 h2=>by
             have a1:=u lo k (by omega) h1 h2;have a2:=u k (lo+n - 1) h1 (by omega) (by omega);omega
           refine wpS_bind (bk0 (D _ (B.set (mirror_perm _ _ _ _)) ?_ (ag8 hz (ed5 _) (by omega)) rfl));refine al4 (fun i j h1 h2 h3=> ?_) m1 ?_
           · show R rk (mirror (arrOf t) _ _ _) j<=R rk (mirror (arrOf t) _ _ _) i;rw[W2 hz all,W2 hz all,all i h1 (by omega),all j (by omega) h3];exact ed5 _
           · show R rk (mirror (arrOf t) _ _ _) _<=R rk (mirror (arrOf t) _ _ _) _;rw[W2 hz all,W2 hz all];omega
       · rw[if_neg g];refine D _ B (al4 (fun i j h1 h2 h3=>by rw[show i=j by omega];exact ed5 _) m1 (by omega)) (E9.refl _ _ _) rfl
     intro t1 B1 d1 k1 p1;refine wpS_bind (wpS_lift (wpAny_rule ⟨rfl,?_⟩))
     refine wpS_bind (wpS_mono (wpS_forRange (I:=fun x c t'=>∃q,c=(none,x,q)/\Bs a0 κ t'/\bn9 rk (arrOf t') lo (lo+x)/\q+1<=x/\(∀i,lo+x - (q+1)<=i->i < lo+x->R rk (arrOf t') i=R rk (arrOf t') (lo+x - 1))/\E9 (arrOf t) (arrOf t') lo (lo+nrem)/\pendingOf t'=pendingOf t)
       (Q:=fun c t'=>∃x q,c=(none,x,q)/\n+1<=x/\x<=nrem/\Bs a0 κ t'/\bn9 rk (arrOf t') lo (lo+x)/\q+1<=x/\(∀i,lo+x - (q+1)<=i->i < lo+x->R rk (arrOf t') i=R rk (arrOf t') (lo+x - 1))/\E9 (arrOf t) (arrOf t') lo (lo+nrem)/\pendingOf t'=pendingOf t) ?step2 ?fin2
       ⟨0,rfl,B1,d1,by omega,(fun i h1 h2=>by rw[show i=lo+(n+1) - 1 by omega]),k1,p1⟩) ?post2)
     case fin2=>
       rintro c t' ⟨q,rfl,B',d,q1,al,k,p⟩;rw[show max (n+1) nrem=nrem by omega] at d q1 al ⊢;exact ⟨nrem,q,rfl,by omega,ed5 _,B',d,q1,al,k,p⟩
     case step2=>
       rintro x c t' x1 xn ⟨q,rfl,B',d,q1,al,k,p⟩
       dsimp only
       have hz:lo+x<=(arrOf t').size:=by rw[B'.size];omega
       refine wpS_bind (ak2 C B' (by omega) (by omega) ?_)
       by_cases y:R rk (arrOf t') (lo+x) < R rk (arrOf t') (lo+x - 1)
       · simp only[y,decide_true,if_true]
         by_cases g:q > 0
         · rw[if_pos g];refine wpS_bind (bk0 (wpS_pure ⟨0,rfl,B'.set (mirror_perm _ _ _ _),?_,by omega,(fun i h1 h2=>by rw[show i=lo+(x+1) - 1 by omega]),k.trans (ag8 hz (by omega) (by omega)),p⟩));refine al4 (fun i j h1 h2 h3=> ?_) (by omega) ?_
           · show R rk (mirror (arrOf t') _ _ _) j<=R rk (mirror (arrOf t') _ _ _) i;rw[W2 hz al,W2 hz al];exact d i j h1 h2 h3
           · show R rk (mirror (arrOf t') _ _ _) _<=R rk (mirror (arrOf t') _ _ _) _;rw[W2 hz al,W2 hz al];omega
         · rw[if_neg g];exact wpS_pure ⟨0,rfl,B',al4 d (by omega) (by omega),by omega,(fun i h1 h2=>by rw[show i=lo+(x+1) - 1 by omega]),k,p⟩
       · simp only[y,decide_false,el7,if_false];refine wpS_bind (ak2 C B' (by omega) (by omega) ?_)
         by_cases g:R rk (arrOf t') (lo+x - 1) < R rk (arrOf t') (lo+x)
         · simp only[g,decide_true,if_true];exact wpS_pure ⟨x,q,rfl,x1,by omega,B',d,q1,al,k,p⟩
         · simp only[g,decide_false,el7,if_false]
           have e:R rk (arrOf t') (lo+x)=R rk (arrOf t') (lo+x - 1):=by omega
           refine wpS_pure ⟨q+1,rfl,B',al4 d (by omega) (by omega),by omega,fun i h1 h2=> ?_,k,p⟩;rw[show lo+(x+1) - 1=lo+x by omega]
           by_cases hi:i=lo+x
           · rw[hi]
           · rw[e];exact al i (by omega) (by omega)
     case post2=>
       rintro c t2 ⟨x,q,rfl,x1,xn,B2,d,q1,al,k2,p2⟩
       dsimp only
       have hz:lo+x<=(arrOf t2).size:=by rw[B2.size];omega
       suffices T:∀t3,Bs a0 κ t3->bn9 rk (arrOf t3) lo (lo+x)->E9 (arrOf t) (arrOf t3) lo (lo+nrem)->pendingOf t3=pendingOf t->wpS (model prog w) A E s _ (dc1 a0 κ rk lo nrem t) t3 by
         by_cases g:q > 0
         · rw[if_pos g];refine wpS_bind (bk0 (T _ (B2.set (mirror_perm _ _ _ _)) (fun i j h1 h2 h3=> ?_) (k2.trans (ag8 hz (by omega) (by omega))) p2));show R rk (mirror (arrOf t2) _ _ _) j<=R rk (mirror (arrOf t2) _ _ _) i;rw[W2 hz al,W2 hz al];exact d i j h1 h2 h3
         · rw[if_neg g];exact T _ B2 d k2 p2
       intro t3 B3 d3 k3 p3
       have hz3:lo+x<=(arrOf t3).size:=by rw[B3.size];omega
       refine wpS_bind (bk0 ?_);have B4:=B3.set (mirror_perm (arrOf t3) lo (lo+x) ((lo+x - lo)/2))
       have u4:Up rk (arrOf (setArr t3 (mirror (arrOf t3) lo (lo+x) ((lo+x - lo)/2)))) lo (lo+x):=fun i j h1 h2 h3=>by
         show R rk (mirror (arrOf t3) _ _ _) i<=R rk (mirror (arrOf t3) _ _ _) j;rw[bf7 hz3,bf7 hz3,if_pos (by omega),if_pos (by omega)];exact d3 _ _ (by omega) (by omega) (by omega)
       have k4:E9 (arrOf t) (arrOf (setArr t3 (mirror (arrOf t3) lo (lo+x) ((lo+x - lo)/2)))) lo (lo+nrem):=k3.trans (ag8 hz3 (ed5 _) (by omega));have p4:pendingOf (setArr t3 (mirror (arrOf t3) lo (lo+x) ((lo+x - lo)/2)))=pendingOf t:=p3;generalize setArr t3 (mirror (arrOf t3) lo (lo+x) ((lo+x - lo)/2))=t4 at B4 u4 k4 p4 ⊢;refine wpS_bind (wpS_mono (wpS_forRange (I:=fun y c t'=>t'=t4/\c=(none,y)/\Up rk (arrOf t4) lo (lo+y)) (Q:=fun c t'=>t'=t4/\∃y,c=(none,y)/\x<=y/\y<=nrem/\Up rk (arrOf t4) lo (lo+y)) ?step3 ?fin3 ⟨rfl,rfl,u4⟩) ?post3)
       case fin3=>
         rintro c t' ⟨rfl,rfl,v⟩;rw[show max x nrem=nrem by omega] at v ⊢;exact ⟨rfl,nrem,rfl,xn,ed5 _,v⟩
       case step3=>
         rintro y c t' y1 yn ⟨rfl,rfl,v⟩
         dsimp only
         refine wpS_bind (ak2 C B4 (by omega) (by omega) ?_)
         by_cases g:R rk (arrOf t') (lo+y) < R rk (arrOf t') (lo+y - 1)
         · simp only[g,decide_true,if_true];exact wpS_pure ⟨rfl,y,rfl,y1,by omega,v⟩
         · simp only[g,decide_false,el7,if_false];exact wpS_pure ⟨rfl,rfl,cv0 v (by omega) g⟩
       case post3=>
         rintro c t' ⟨rfl,y,rfl,y1,yn,v⟩;exact wpS_pure ⟨y,rfl,B4,by omega,yn,v,k4,p4⟩
end
end TS
namespace TS
open PySem PyProof.Rows
def gal:Bool->Keyed->Array Keyed->Nat->Nat->Nat->StateT SortSt Sem (Option Nat):=sortPriv%PySem.Builtin.gallop
section
variable {prog:Program} {w:World} {A:Around} {E:Value->Shared->Prop} {s:Shared}
variable {rk:Keyed->Nat} {a0:Array Keyed} {κ:SortKind}
def J4 (rk:Keyed->Nat)(left:Bool)(key:Keyed)(arr:Array Keyed)(base i:Nat):Bool:=if left then decide (R rk arr (base+i) < rk key) else !decide (rk key < R rk arr (base+i))
theorem X6 {left:Bool}{key:Keyed}{arr:Array Keyed}{base n i j:Nat}(u:Up rk arr base (base+n))(h1:i<=j)(h2:j < n)(h:J4 rk left key arr base j=true):J4 rk left key arr base i=true:=by
 have:=u (base+i) (base+j) (by omega) (by omega) (by omega);unfold J4 at h ⊢;cases left
 · simp at h ⊢;omega
 · simp at h ⊢;omega
theorem E7 {arr:Array Keyed}{i:Nat}{st:SortSt}{Q:Keyed->SortSt->Prop}{p:Keyed}(h:arr[i]? =some p)(q:Q p st):wpS (model prog w) A E s (elem' arr i) Q st:=by
 rw[elem'_eq,h];exact wpS_pure q
def In0 (a0 arr:Array Keyed):Prop:=∀x∈arr.toList,x∈a0.toList
theorem In0.at {arr:Array Keyed}(h:In0 a0 arr){i:Nat}(hi:i < arr.size):∃p,arr[i]? =some p/\p∈a0.toList:=⟨arr[i],getElem?_pos _ i hi,h _ (by simp)⟩
theorem M1 {arr:Array Keyed}{i:Nat}{p:Keyed}(h:arr[i]? =some p):R rk arr i=rk p:=by unfold R;rw[h]
theorem aq5 {st:SortSt}{left:Bool}{key:Keyed}{arr:Array Keyed}{base n hint:Nat}{Q:Option Nat->SortSt->Prop}(C:Cm prog w A s κ rk a0)(hk:kindOf st=κ)(ia:In0 a0 arr)(ik:key∈a0.toList)(hz:base+n<=arr.size)(hh:hint < n)
   (u:Up rk arr base (base+n)) (h:∀k,k<=n->(∀i,i < k->J4 rk left key arr base i=true)->(∀i,k<=i->i < n->J4 rk left key arr base i=false)->Q (some k) st):wpS (model prog w) A E s (gal left key arr base n hint) Q st:=by
 have by0:∀(i:Nat) (Q':Option Bool->SortSt->Prop),i < n->Q' (some (J4 rk left key arr base i)) st->wpS (model prog w) A E s (do let x <-elem' arr (base+i);if left then lt' x key else return (<-lt' key x).map (!·)) Q' st:=by
   intro i Q' hi q;obtain ⟨p,e,m⟩:=ia.at (show base+i < arr.size by omega);refine wpS_bind (E7 e ?_);unfold J4 at q;rw[M1 e] at q
   cases left with
   |true=>
    rw[if_pos rfl] at q ⊢;exact bj9 C hk m ik q
   |false=>
    rw[if_neg (by decide)] at q ⊢;exact wpS_bind (bj9 C hk ik m (wpS_pure q))
 refine wpS_bind (by0 hint _ hh ?_)
 cases hr:J4 rk left key arr base hint with
 |true=>
  dsimp only
  rw[if_pos rfl]
  refine wpS_bind (wpS_mono (wpS_forRange (I:=fun x c t=>t=st/\∃l o,c=(none,l,o)/\l < o/\l < n - hint/\x+1<=o/\J4 rk left key arr base (hint+l)=true)
    (Q:=fun c t=>t=st/\∃l o,c=(none,l,o)/\l < o/\l < n - hint/\J4 rk left key arr base (hint+l)=true/\(n - hint<=o\/J4 rk left key arr base (hint+o)=false)) ?step ?fin ⟨rfl,0,1,rfl,by omega,by omega,by omega,hr⟩) ?post)
  case fin=>
    rintro c t ⟨rfl,l,o,rfl,a1,a2,a3,a4⟩;exact ⟨rfl,l,o,rfl,a1,a2,a4,.inl (by omega)⟩
  case step=>
    rintro x c t _ xn ⟨rfl,l,o,rfl,a1,a2,a3,a4⟩
    dsimp only
    by_cases z:o≥n - hint
    · rw[if_pos z];exact wpS_pure ⟨rfl,l,o,rfl,a1,a2,a4,.inl z⟩
    · rw[if_neg z];refine wpS_bind (by0 (hint+o) _ (by omega) ?_)
      cases y:J4 rk left key arr base (hint+o) with
      |true=>
       dsimp only
       rw[if_neg (by decide)];exact wpS_pure ⟨rfl,_,_,rfl,by omega,by omega,by omega,y⟩
      |false=>
       dsimp only
       rw[if_pos (by decide)];exact wpS_pure ⟨rfl,l,o,rfl,a1,a2,a4,.inr y⟩
  case post=>
    rintro c t ⟨ht,l,o,rfl,a1,a2,a3,a4⟩;obtain rfl:=ht.symm
    dsimp only
    have le1:hint+l+1<=hint+min o (n - hint):=by omega
    have le2:hint+min o (n - hint)<=n:=by omega
    have b1:∀i,i < hint+l+1->J4 rk left key arr base i=true:=fun i h1=>X6 u (show i<=hint+l by omega) (by omega) a3
    have b2:∀i,hint+min o (n - hint)<=i->i < n->J4 rk left key arr base i=false:=fun i h1 h2=>by
      rcases a4 with a4|a4
      · omega
      · cases y':J4 rk left key arr base i with
        |false=>rfl
        |true=>rw[X6 u (show hint+o<=i by omega) h2 y'] at a4;cases a4
    refine wpS_bind (wpS_mono (wpS_forRange (I:=fun x c t=>t=st/\∃lo hi,c=(none,lo,hi)/\lo<=hi/\hi<=n/\hi - lo<=n - x/\(∀i,i < lo->J4 rk left key arr base i=true)/\(∀i,hi<=i->i < n->J4 rk left key arr base i=false))
      (Q:=fun c t=>t=st/\∃lo hi,c=(none,lo,hi)/\hi<=n/\(∀i,i < hi->J4 rk left key arr base i=true)/\(∀i,hi<=i->i < n->J4 rk left key arr base i=false)) ?stepB ?finB ⟨rfl,_,_,rfl,le1,le2,by omega,b1,b2⟩) ?postB)
    case finB=>
      rintro c t ⟨rfl,lo,hi,rfl,a1,a2,a3,a4,a5⟩;rw[show lo=hi by omega] at a4;exact ⟨rfl,lo,hi,rfl,a2,a4,a5⟩
    case stepB=>
      rintro x c t _ xn ⟨rfl,lo,hi,rfl,a1,a2,a3,a4,a5⟩
      dsimp only
      by_cases z:lo≥hi
      · rw[if_pos z];rw[show lo=hi by omega] at a4;exact wpS_pure ⟨rfl,lo,hi,rfl,a2,a4,a5⟩
      · rw[if_neg z];refine wpS_bind (by0 (lo+(hi - lo)/2) _ (by omega) ?_)
        cases y:J4 rk left key arr base (lo+(hi - lo)/2) with
        |true=>
         dsimp only
         rw[if_pos rfl];exact wpS_pure ⟨rfl,_,_,rfl,by omega,a2,by omega,fun i h1=>X6 u (show i<=lo+(hi - lo)/2 by omega) (by omega) y,a5⟩
        |false=>
         dsimp only
         rw[if_neg (by decide)];refine wpS_pure ⟨rfl,_,_,rfl,by omega,by omega,by omega,a4,fun i h1 h2=> ?_⟩
         cases y':J4 rk left key arr base i with
         |false=>rfl
         |true=>rw[X6 u h1 h2 y'] at y;cases y
    case postB=>
      rintro c t ⟨rfl,lo,hi,rfl,a1,a2,a3⟩;exact wpS_pure (h hi a1 a2 a3)
 |false=>
  dsimp only
  rw[if_neg (by decide)]
  refine wpS_bind (wpS_mono (wpS_forRange (I:=fun x c t=>t=st/\∃l o,c=(none,l,o)/\l < o/\l < hint+1/\x+1<=o/\J4 rk left key arr base (hint - l)=false)
    (Q:=fun c t=>t=st/\∃l o,c=(none,l,o)/\l < o/\l < hint+1/\J4 rk left key arr base (hint - l)=false/\(hint+1<=o\/J4 rk left key arr base (hint - o)=true)) ?step ?fin ⟨rfl,0,1,rfl,by omega,by omega,by omega,hr⟩) ?post)
  case fin=>
    rintro c t ⟨rfl,l,o,rfl,a1,a2,a3,a4⟩;exact ⟨rfl,l,o,rfl,a1,a2,a4,.inl (by omega)⟩
  case step=>
    rintro x c t _ xn ⟨rfl,l,o,rfl,a1,a2,a3,a4⟩
    dsimp only
    by_cases z:o≥hint+1
    · rw[if_pos z];exact wpS_pure ⟨rfl,l,o,rfl,a1,a2,a4,.inl z⟩
    · rw[if_neg z];refine wpS_bind (by0 (hint - o) _ (by omega) ?_)
      cases y:J4 rk left key arr base (hint - o) with
      |false=>
       dsimp only
       rw[if_neg (by decide)];exact wpS_pure ⟨rfl,_,_,rfl,by omega,by omega,by omega,y⟩
      |true=>
       dsimp only
       rw[if_pos rfl];exact wpS_pure ⟨rfl,l,o,rfl,a1,a2,a4,.inr y⟩
  case post=>
    rintro c t ⟨ht,l,o,rfl,a1,a2,a3,a4⟩;obtain rfl:=ht.symm
    dsimp only
    have le1:hint+1 - min o (hint+1)<=hint - l:=by omega
    have le2:hint - l<=n:=by omega
    have b1:∀i,i < hint+1 - min o (hint+1)->J4 rk left key arr base i=true:=fun i h1=>by
      rcases a4 with a4|a4
      · omega
      · exact X6 u (show i<=hint - o by omega) (by omega) a4
    have b2:∀i,hint - l<=i->i < n->J4 rk left key arr base i=false:=fun i h1 h2=>by
      cases y':J4 rk left key arr base i with
      |false=>rfl
      |true=>rw[X6 u h1 h2 y'] at a3;cases a3
    refine wpS_bind (wpS_mono (wpS_forRange (I:=fun x c t=>t=st/\∃lo hi,c=(none,lo,hi)/\lo<=hi/\hi<=n/\hi - lo<=n - x/\(∀i,i < lo->J4 rk left key arr base i=true)/\(∀i,hi<=i->i < n->J4 rk left key arr base i=false))
      (Q:=fun c t=>t=st/\∃lo hi,c=(none,lo,hi)/\hi<=n/\(∀i,i < hi->J4 rk left key arr base i=true)/\(∀i,hi<=i->i < n->J4 rk left key arr base i=false)) ?stepB ?finB ⟨rfl,_,_,rfl,le1,le2,by omega,b1,b2⟩) ?postB)
    case finB=>
      rintro c t ⟨rfl,lo,hi,rfl,a1,a2,a3,a4,a5⟩;rw[show lo=hi by omega] at a4;exact ⟨rfl,lo,hi,rfl,a2,a4,a5⟩
    case stepB=>
      rintro x c t _ xn ⟨rfl,lo,hi,rfl,a1,a2,a3,a4,a5⟩
      dsimp only
      by_cases z:lo≥hi
      · rw[if_pos z];rw[show lo=hi by omega] at a4;exact wpS_pure ⟨rfl,lo,hi,rfl,a2,a4,a5⟩
      · rw[if_neg z];refine wpS_bind (by0 (lo+(hi - lo)/2) _ (by omega) ?_)
        cases y:J4 rk left key arr base (lo+(hi - lo)/2) with
        |true=>
         dsimp only
         rw[if_pos rfl];exact wpS_pure ⟨rfl,_,_,rfl,by omega,a2,by omega,fun i h1=>X6 u (show i<=lo+(hi - lo)/2 by omega) (by omega) y,a5⟩
        |false=>
         dsimp only
         rw[if_neg (by decide)];refine wpS_pure ⟨rfl,_,_,rfl,by omega,by omega,by omega,a4,fun i h1 h2=> ?_⟩
         cases y':J4 rk left key arr base i with
         |false=>rfl
         |true=>rw[X6 u h1 h2 y'] at y;cases y
    case postB=>
      rintro c t ⟨rfl,lo,hi,rfl,a1,a2,a3⟩;exact wpS_pure (h hi a1 a2 a3)
end
end TS
namespace TS
open PySem PyProof.Rows
section
variable {rk:Keyed->Nat}
def Le (rk:Keyed->Nat)(x y:Keyed):Prop:=rk x<=rk y
section
variable {le:Keyed->Keyed->Prop}
def M5 (le:Keyed->Keyed->Prop)(l:List Keyed):Prop:=l.Pairwise le
structure Mi (le:Keyed->Keyed->Prop)(a b out:List Keyed)(i j:Nat):Prop where
 pm:out.Perm (a.take i++b.take j)
 up:M5 le out
 ba:∀x∈out,∀y∈a.drop i,le x y
 bb:∀x∈out,∀y∈b.drop j,le x y
theorem ab3 {l m:List Keyed}:M5 le (l++m)↔M5 le l/\M5 le m/\∀x∈l,∀y∈m,le x y:=List.pairwise_append
theorem al5 {l:List Keyed}(h:M5 le l)(i:Nat):M5 le (l.drop i):=List.Pairwise.sublist (List.drop_sublist i l) h
theorem bb9 {l:List Keyed}{i:Nat}{x:Keyed}(h:l[i]? =some x):l.drop i=x::l.drop (i+1):=by
 obtain ⟨hi,e⟩:=ed3.mp h;rw[el5 hi,e]
theorem bo1 {l:List Keyed}{i:Nat}{x:Keyed}(h:l[i]? =some x):l.take (i+1)=l.take i++[x]:=by rw[List.take_succ,h];rfl
theorem af0 (rf:∀x,le x x){l:List Keyed}(s:M5 le l){i:Nat}{x:Keyed}(h:l[i]? =some x):∀y∈l.drop i,le x y:=fun y hy=>by
 have:=al5 s i;rw[bb9 h] at this hy
 rcases ee8.mp hy with e|e
 · rw[e];exact rf _
 · exact (eu6.mp this).1 y e
theorem Mi.pushA (rf:∀x,le x x){a b out:List Keyed}{i j:Nat}{x:Keyed}(h:Mi le a b out i j)(sa:M5 le a)(hx:a[i]? =some x)(hb:∀y∈b.drop j,le x y):Mi le a b (out++[x]) (i+1) j:=by
 have da:=bb9 hx
 have mx:x∈a.drop i:=by rw[da];exact ed7
 refine ⟨?_,?_,?_,?_⟩
 · rw[bo1 hx,ef2];refine (h.pm.append_right [x]).trans ?_;rw[ef2];exact List.Perm.append_left _ ek6
 · refine ab3.mpr ⟨h.up,ep5 _ _,fun y hy z hz=> ?_⟩;rw[ee3.mp hz];exact h.ba y hy x mx
 · intro y hy z hz
   have hz':z∈a.drop i:=by rw[da];exact ee0 _ hz
   rcases ee2.mp hy with e|e
   · exact h.ba y e z hz'
   · rw[ee3.mp e];exact af0 rf sa hx z hz'
 · intro y hy z hz
   rcases ee2.mp hy with e|e
   · exact h.bb y e z hz
   · rw[ee3.mp e];exact hb z hz
theorem Mi.pushB (rf:∀x,le x x){a b out:List Keyed}{i j:Nat}{x:Keyed}(h:Mi le a b out i j)(sb:M5 le b)(hx:b[j]? =some x)(ha:∀y∈a.drop i,le x y):Mi le a b (out++[x]) i (j+1):=by
 have db:=bb9 hx
 have mx:x∈b.drop j:=by rw[db];exact ed7
 refine ⟨?_,?_,?_,?_⟩
 · rw[bo1 hx,<-ef2];exact h.pm.append_right [x]
 · refine ab3.mpr ⟨h.up,ep5 _ _,fun y hy z hz=> ?_⟩;rw[ee3.mp hz];exact h.bb y hy x mx
 · intro y hy z hz
   rcases ee2.mp hy with e|e
   · exact h.ba y e z hz
   · rw[ee3.mp e];exact ha z hz
 · intro y hy z hz
   have hz':z∈b.drop j:=by rw[db];exact ee0 _ hz
   rcases ee2.mp hy with e|e
   · exact h.bb y e z hz'
   · rw[ee3.mp e];exact af0 rf sb hx z hz'
theorem ca6 {l:List Keyed}{i k:Nat}{x:Keyed}(h:l[i+k]? =some x):(l.take (i+(k+1))).drop i=(l.take (i+k)).drop i++[x]:=by
 have hl:=(ed3.mp h).1;rw[show i+(k+1)=(i+k)+1 by omega,bo1 h,List.drop_append_of_le_length (by rw[ee9];omega)]
theorem Mi.manyA (rf:∀x,le x x){a b out:List Keyed}{i j:Nat}(h:Mi le a b out i j)(sa:M5 le a):∀k,i+k<=a.length->(∀n x,n < k->a[i+n]? =some x->∀y∈b.drop j,le x y)->Mi le a b (out++(a.take (i+k)).drop i) (i+k) j
 |0,_,_=>by rw[el0,eo6 (by rw[ee9];omega),eg0];exact h
 |k+1,hl,hc=>by
  have e:a[i+k]? =some a[i+k]:=ed4 (by omega);rw[ca6 e,<-ef2,show i+(k+1)=i+k+1 by omega];exact (Mi.manyA rf h sa k (by omega) fun n x hn=>hc n x (by omega)).pushA rf sa e (hc k _ (by omega) e)
theorem Mi.manyB (rf:∀x,le x x){a b out:List Keyed}{i j:Nat}(h:Mi le a b out i j)(sb:M5 le b):∀k,j+k<=b.length->(∀n x,n < k->b[j+n]? =some x->∀y∈a.drop i,le x y)->Mi le a b (out++(b.take (j+k)).drop j) i (j+k)
 |0,_,_=>by rw[el0,eo6 (by rw[ee9];omega),eg0];exact h
 |k+1,hl,hc=>by
  have e:b[j+k]? =some b[j+k]:=ed4 (by omega);rw[ca6 e,<-ef2,show j+(k+1)=j+k+1 by omega];exact (Mi.manyB rf h sb k (by omega) fun n x hn=>hc n x (by omega)).pushB rf sb e (hc k _ (by omega) e)
def Mg (le:Keyed->Keyed->Prop)(a b r:List Keyed):Prop:=r.Perm (a++b)/\M5 le r
theorem az1 (a b out:List Keyed)(i j:Nat)(h:out.Perm (a.take i++b.take j)):(out++a.drop i++b.drop j).Perm (a++b):=by
 have e1:=(h.append_right (a.drop i)).append_right (b.drop j);refine e1.trans ?_
 have e2:((a.take i++b.take j)++a.drop i).Perm (a++b.take j):=by
   rw[ef2];refine (List.Perm.append_left _ ek6).trans ?_;rw[<-ef2,ei8]
 refine (e2.append_right _).trans ?_;rw[ef2,ei8]
theorem Mi.doneB {a b out:List Keyed}{i j:Nat}(h:Mi le a b out i j)(sa:M5 le a)(hj:b.length<=j):Mg le a b (out++a.drop i++b.drop j):=by
 refine ⟨az1 a b out i j h.pm,?_⟩;rw[eo6 hj,eg0];exact ab3.mpr ⟨h.up,al5 sa i,h.ba⟩
theorem Mi.doneA {a b out:List Keyed}{i j:Nat}(h:Mi le a b out i j)(sb:M5 le b)(hi:a.length<=i):Mg le a b (out++a.drop i++b.drop j):=by
 refine ⟨az1 a b out i j h.pm,?_⟩;rw[eo6 hi,eg0];exact ab3.mpr ⟨h.up,al5 sb j,h.bb⟩
theorem Mi.last {a b out:List Keyed}{i j:Nat}(h:Mi le a b out i j)(sa:M5 le a)(sb:M5 le b)(top:∀x∈b.drop j,∀y∈a.drop i,le x y):Mg le a b (out++b.drop j++a.drop i):=by
 constructor
 · refine List.Perm.trans ?_ (az1 a b out i j h.pm);rw[ef2,ef2];exact List.Perm.append_left _ ek6
 · rw[ef2];refine ab3.mpr ⟨h.up,ab3.mpr ⟨al5 sb j,al5 sa i,top⟩,fun x hx y hy=> ?_⟩
   rcases ee2.mp hy with e|e
   · exact h.bb x hx y e
   · exact h.ba x hx y e
end
theorem dy3 {xs:Array Keyed}(u:Up rk xs 0 xs.size):M5 (Le rk) xs.toList:=by
 refine eg8.mpr fun i j hi hj hij=> ?_
 have:=u i j (ef5 _) (by omega) (by simpa using hj);rw[M1 (p:=xs.toList[i]) (by simp),M1 (p:=xs.toList[j]) (by simp)] at this;exact this
theorem an9 {xs:Array Keyed}(h:M5 (Le rk) xs.toList):Up rk xs 0 xs.size:=fun i j _ hij hj=>by
 rcases eu7 hij with z|z
 · have:=eg8.mp h i j (by simp;omega) (by simpa using hj) z;rw[M1 (i:=i) (p:=xs.toList[i]'(by simp;omega)) (by simp),M1 (i:=j) (p:=xs.toList[j]'(by simpa using hj)) (by simp)];exact this
 · rw[z];exact ed5 _
end
end TS
namespace TS
open PySem PyProof.Rows
def mLo:Array Keyed->Array Keyed->StateT SortSt Sem (Array Keyed):=sortPriv%PySem.Builtin.mergeLo
section
variable {prog:Program} {w:World} {A:Around} {E:Value->Shared->Prop} {s:Shared}
variable {rk:Keyed->Nat} {a0:Array Keyed} {κ:SortKind}
structure N9 (st t:SortSt):Prop where
 arr:arrOf t=arrOf st
 pend:pendingOf t=pendingOf st
 kind:kindOf t=kindOf st
 ok:failedOf t=failedOf st
theorem N9.refl (st:SortSt):N9 st st:=⟨rfl,rfl,rfl,rfl⟩
def MQ (rk:Keyed->Nat)(a b:Array Keyed)(st:SortSt)(r:Array Keyed)(t:SortSt):Prop:=Mg (Le rk) a.toList b.toList r.toList/\N9 st t
theorem hv {β γ:Type}{F:γ}{K:γ->StateT SortSt Sem β}{Q:β->SortSt->Prop}{st:SortSt}(h:wpS (model prog w) A E s (K F) Q st):wpS (model prog w) A E s (have x:=F;K x) Q st:=h
theorem J1 {β:Type}{c:Prop}[Decidable c]{m n:StateT SortSt Sem β}{Q:β->SortSt->Prop}{st:SortSt}(h1:c->wpS (model prog w) A E s m Q st)(h2:¬c->wpS (model prog w) A E s n Q st):wpS (model prog w) A E s (if c then m else n) Q st:=by
 split
 · exact h1 ‹_›
 · exact h2 ‹_›
theorem X7 {a b:Nat}(h:(a==b)=true):a=b:=by simpa using h
theorem Z2 {a b:Nat}(h:¬(a==b)=true):¬a=b:=by simpa using h
theorem af1 (xs:Array Keyed)(i:Nat):(xs.extract i).toList=xs.toList.drop i:=by rw[Array.toList_extract,ew0,en0 (by simp)]
theorem Y5 (xs:Array Keyed)(i j:Nat):(xs.extract i j).toList=(xs.toList.take j).drop i:=by rw[Array.toList_extract,ew0,List.drop_take]
theorem N8 {xs:Array Keyed}{i:Nat}{x:Keyed}(h:xs[i]? =some x):xs.toList[i]? =some x:=by rw[<-h];simp
theorem dr6 {st:SortSt}{g:Nat}{Q:Unit->SortSt->Prop}(h:Q () (SortSt.mk' (kindOf st) (arrOf st) (pendingOf st) g (failedOf st))):wpS (model prog w) A E s ((sortPriv%PySem.Builtin.setMinGallop) g) Q st:=wpS_modify h
theorem N9.gal {st t:SortSt}(h:N9 st t)(g:Nat):N9 st (SortSt.mk' (kindOf t) (arrOf t) (pendingOf t) g (failedOf t)):=⟨h.arr,h.pend,h.kind,h.ok⟩
theorem dc2 {st0 st:SortSt}{g:Nat}{Q:Unit->SortSt->Prop}(l:N9 st0 st)(h:∀t,N9 st0 t->Q () t):wpS (model prog w) A E s ((sortPriv%PySem.Builtin.setMinGallop) g) Q st:=dr6 (h _ (l.gal g))
theorem dg1 {β:Type}{c:Prop}[Decidable c]{m n:StateT SortSt Sem β}{Q:β->SortSt->Prop}{st:SortSt}(h2:¬c->wpS (model prog w) A E s n Q st)(h1:c->wpS (model prog w) A E s m Q st):wpS (model prog w) A E s (if c then m else n) Q st:=J1 h1 h2
theorem cv5 {P:Nat->Prop}{T:Prop}(use:(∀g,P g)->T)(h:∀g,P g):T:=use h
theorem dr7 {st:SortSt}{a b:Array Keyed}(C:Cm prog w A s κ rk a0)(hk:kindOf st=κ)(ia:In0 a0 a)(ib:In0 a0 b)(a1:1<=a.size)(b1:1<=b.size)(sa:M5 (Le rk) a.toList)(sb:M5 (Le rk) b.toList)
   (first:∀x,b[0]? =some x->∀y∈a.toList,Le rk x y) (last:∀x∈b.toList,∀y,a[a.size - 1]? =some y->Le rk x y):wpS (model prog w) A E s (mLo a b) (MQ rk a b st) st:=by
 have la:a.toList.length=a.size:=ef7;have lb:b.toList.length=b.size:=ef7;have ua:=an9 sa;have ub:=an9 sb
 have doneB:∀out i j t,Mi (Le rk) a.toList b.toList (ei9 out) i j->N9 st t->b.size<=j->MQ rk a b st (out++a.extract i++b.extract j) t:=fun out i j t m l hj=>by
   refine ⟨?_,l⟩;rw[eh7,eh7,af1,af1];exact m.doneB sa (by omega)
 have doneA:∀out i j t,Mi (Le rk) a.toList b.toList (ei9 out) i j->N9 st t->a.size<=i->MQ rk a b st (out++a.extract i++b.extract j) t:=fun out i j t m l hi=>by
   refine ⟨?_,l⟩;rw[eh7,eh7,af1,af1];exact m.doneA sb (by omega)
 have lastA:∀out i j t,Mi (Le rk) a.toList b.toList (ei9 out) i j->N9 st t->i+1=a.size->MQ rk a b st (out++b.extract j++a.extract i) t:=fun out i j t m l hi=>by
   refine ⟨?_,l⟩;rw[eh7,eh7,af1,af1]
   refine m.last sa sb fun x hx y hy=>last x (en7 hx) y ?_
   have e:a.toList[i]? =some a.toList[i]:=ed4 (by omega);rw[bb9 e,eo6 (by omega)] at hy;rw[ee3.mp hy,show a.size - 1=i by omega,<-ei0];exact e
 have stepB:∀out i j x y,Mi (Le rk) a.toList b.toList (ei9 out) i j->a[i]? =some x->b[j]? =some y->rk y<=rk x->Mi (Le rk) a.toList b.toList (ei9 (out.push y)) i (j+1):=fun out i j x y m hx hy le=>by
   rw[ep0]
   exact m.pushB (fun _=>ed5 _) sb (N8 hy) fun z hz=>ee6 le (af0 (fun _=>ed5 _) sa (N8 hx) z hz)
 have stepA:∀out i j x y,Mi (Le rk) a.toList b.toList (ei9 out) i j->a[i]? =some x->b[j]? =some y->rk x<=rk y->Mi (Le rk) a.toList b.toList (ei9 (out.push x)) (i+1) j:=fun out i j x y m hx hy le=>by
   rw[ep0]
   exact m.pushA (fun _=>ed5 _) sa (N8 hx) fun z hz=>ee6 le (af0 (fun _=>ed5 _) sb (N8 hy) z hz)
 refine wpS_bind (wpS_lift (wpAny_rule ⟨rfl,?_⟩));obtain ⟨b0,eb0,mb0⟩:=ib.at (show 0 < b.size by omega);refine wpS_bind (E7 eb0 ?_)
 have m0:Mi (Le rk) a.toList b.toList (ei9 #[b0]) 0 1:=by
   have e:b.toList[0]? =some b0:=N8 eb0;have n:Mi (Le rk) a.toList b.toList [] 0 0:=⟨List.Perm.refl _,List.Pairwise.nil,(fun x h=>by cases h),(fun x h=>by cases h)⟩
   exact n.pushB (fun _=>ed5 _) sb e fun y hy=>first b0 eb0 y hy
 refine hv (hv (hv ?_))
 by_cases z1:1=b.size
 · rw[if_pos (by simpa using z1)];exact wpS_pure (doneB _ _ _ _ m0 (N9.refl st) (by omega))
 rw[if_neg (by simpa using z1)]
 by_cases z2:0+1=a.size
 · rw[if_pos (by simpa using z2)];exact wpS_pure (lastA _ _ _ _ m0 (N9.refl st) z2)
 rw[if_neg (by simpa using z2)];refine wpS_bind (wpS_get ?_)
 refine wpS_bind (wpS_mono (wpS_forRange (I:=fun x c t=>∃out i j g,c=(none,out,i,j,g)/\Mi (Le rk) a.toList b.toList (ei9 out) i j/\i+1 < a.size/\j < b.size/\x<=i+j/\N9 st t)
   (Q:=fun c t=>∃r,c.1=some r/\MQ rk a b st r t) ?step ?fin ⟨_,_,_,_,rfl,m0,by omega,by omega,by omega,N9.refl st⟩) ?post)
 case post=>
   rintro c t ⟨r,hr,q⟩;obtain ⟨c1,c2⟩:=c;cases hr;exact wpS_pure q
 case fin=>
   rintro c t ⟨out,i,j,g,rfl,m,h1,h2,h3,l⟩;omega
 case step=>
   rintro x c t _ xn ⟨out,i,j,g,rfl,m,h1,h2,h3,l⟩
   refine wpS_bind (wpS_mono (wpS_forRange (I:=fun y c t'=>∃out' i' j' p q,c=(none,out',i',j',p,q)/\t'=t/\Mi (Le rk) a.toList b.toList (ei9 out') i' j'/\i'+1 < a.size/\j' < b.size/\i'+j'=i+j+y)
     (Q:=fun c t'=>(∃r,c.1=some r/\MQ rk a b st r t')\/(∃out' i' j' p q,c=(none,out',i',j',p,q)/\t'=t/\Mi (Le rk) a.toList b.toList (ei9 out') i' j'/\i'+1 < a.size/\j' < b.size/\x+1<=i'+j')) ?step2 ?fin2 ⟨_,_,_,_,_,rfl,rfl,m,h1,h2,rfl⟩) ?post2)
   case fin2=>
     rintro c t' ⟨out',i',j',p,q,rfl,rfl,m',k1,k2,k3⟩;omega
   case step2=>
     rintro y c t' _ yn ⟨out',i',j',p,q,rfl,rfl,m',k1,k2,k3⟩;obtain ⟨u,eu,mu⟩:=ia.at (show i' < a.size by omega);obtain ⟨v,ev,mv⟩:=ib.at k2;refine wpS_bind (E7 ev (wpS_bind (E7 eu (wpS_bind (bj9 C (l.kind.trans hk) mv mu ?_)))))
     by_cases d:rk v < rk u
     · rw[decide_eq_true d]
       dsimp only
       rw[if_pos rfl];have m2:=stepB out' i' j' u v m' eu ev (eh1 d);refine wpS_bind (E7 ev ?_)
       by_cases z:j'+1=b.size
       · rw[if_pos (by simpa using z)];exact wpS_pure (.inl ⟨_,rfl,doneB _ _ _ _ m2 l (by omega)⟩)
       · rw[if_neg (by simpa using z)]
         split
         · exact wpS_pure (.inr ⟨_,_,_,_,_,rfl,rfl,m2,k1,by omega,by omega⟩)
         · exact wpS_pure ⟨_,_,_,_,_,rfl,rfl,m2,k1,by omega,by omega⟩
     · rw[decide_eq_false d]
       dsimp only
       rw[if_neg (by decide)];have m2:=stepA out' i' j' u v m' eu ev (by omega);refine wpS_bind (E7 eu ?_)
       by_cases z:i'+1+1=a.size
       · rw[if_pos (by simpa using z)];exact wpS_pure (.inl ⟨_,rfl,lastA _ _ _ _ m2 l z⟩)
       · rw[if_neg (by simpa using z)]
         split
         · exact wpS_pure (.inr ⟨_,_,_,_,_,rfl,rfl,m2,by omega,k2,by omega⟩)
         · exact wpS_pure ⟨_,_,_,_,_,rfl,rfl,m2,by omega,k2,by omega⟩
   case post2=>
     rintro c t' (⟨r,hr,q⟩|⟨out',i',j',p,q,rfl,rfl,m',k1,k2,k3⟩)
     · obtain ⟨c1,c2⟩:=c;cases hr;exact wpS_pure ⟨r,rfl,q⟩
     · refine wpS_bind (wpS_lift (wpAny_rule ⟨rfl,?_⟩))
       refine wpS_bind (wpS_mono (wpS_forRange (I:=fun y c t2=>∃out2 i2 j2 g2 p q,c=(none,out2,i2,j2,g2,p,q)/\N9 st t2/\Mi (Le rk) a.toList b.toList (ei9 out2) i2 j2/\i2+1 < a.size/\j2 < b.size/\x+1<=i2+j2)
         (Q:=fun c t2=>(∃r,c.1=some r/\MQ rk a b st r t2)\/(∃out2 i2 j2 g2 p q,c=(none,out2,i2,j2,g2,p,q)/\N9 st t2/\Mi (Le rk) a.toList b.toList (ei9 out2) i2 j2/\i2+1 < a.size/\j2 < b.size/\x+1<=i2+j2)) ?step3 ?fin3 ⟨_,_,_,_,_,_,rfl,l,m',k1,k2,k3⟩) ?post3)
       case fin3=>
         rintro c t2 h;exact .inr h
       case post3=>
         rintro c t2 (⟨r,hr,q⟩|⟨out2,i2,j2,g2,p,q,rfl,l2,m2,n1,n2,n3⟩)
         · obtain ⟨c1,c2⟩:=c;cases hr;exact wpS_pure ⟨r,rfl,q⟩
         · refine wpS_bind (dr6 ?_);exact wpS_pure ⟨_,_,_,_,rfl,m2,n1,n2,n3,l2.gal _⟩
       case step3=>
         rintro y c t2 _ yn ⟨out2,i2,j2,g2,p,q,rfl,l2,m2,n1,n2,n3⟩;obtain ⟨v,ev,mv⟩:=ib.at n2
         revert g2
         refine cv5 (fun hB g2=>dg1 (fun _=>hB g2) (fun _=>hB (g2 - 1))) ?_;intro gg;refine wpS_bind (dc2 l2 fun t3 l3=> ?_);refine wpS_bind (E7 ev ?_);refine wpS_bind (aq5 (base:=i2) (n:=a.size - i2) (hint:=0) C (l3.kind.trans hk) ia mv (show i2+(a.size - i2)<=a.size by omega) (by omega) (fun x y h1 h2 h3=>ua x y (by omega) h2 (by omega)) fun k kn ka kb=> ?_)
         have mA:∀k',k'<=k->Mi (Le rk) a.toList b.toList (ei9 (out2++a.extract i2 (i2+k'))) (i2+k') j2:=fun k' hk'=>by
           rw[eh7,Y5]
           refine m2.manyA (fun _=>ed5 _) sa k' (by omega) fun n x hn hx z hz=> ?_
           have h:=ka n (by omega);unfold J4 at h;rw[if_neg (by decide),M1 (p:=x) (by rw[<-ei0];exact hx)] at h
           have hle:rk x<=rk v:=by simpa using h
           exact ee6 hle (af0 (fun _=>ed5 _) sb (N8 ev) z hz)
         have gB:i2+k < a.size->rk v < R rk a (i2+k):=fun h=>by
           have h:=kb k (ed5 _) (by omega);unfold J4 at h;rw[if_neg (by decide)] at h
           simpa using h
         have m3:=mA k (ed5 _);refine J1 (fun kz=> ?_) (fun kz=> ?_);refine J1 (fun z=>wpS_pure (.inl ⟨_,rfl,lastA _ _ _ _ m3 l3 (X7 z)⟩)) (fun z1=> ?_);refine J1 (fun z=>wpS_pure (.inl ⟨_,rfl,doneA _ _ _ _ m3 l3 (er1 (X7 z).symm)⟩)) (fun z2=> ?_);have z1:¬i2+k+1=a.size:=Z2 z1;have z2:¬i2+k=a.size:=Z2 z2
         have f1:i2+k+1 < a.size:=by omega
         have f2:x+1<=i2+k+j2:=by omega
         have f3:=gB (by omega);generalize out2++a.extract i2 (i2+k)=out3 at m3 ⊢;generalize i2+k=i3 at m3 f1 f2 f3 ⊢
         rotate_left
         have k0:k=0:=by omega
         subst k0
         have e0:out2++a.extract i2 (i2+0)=out2:=by simp<;>omega
         rw[e0,el0] at m3
         have f1:i2+1 < a.size:=by omega
         have f2:x+1<=i2+j2:=by omega
         have f3:=gB (by omega);rw[el0] at f3;clear e0;generalize out2=out3 at m3 ⊢;generalize i2=i3 at m3 f1 f2 f3 ⊢
         rotate_left
         all_goals
           obtain ⟨u3,eu3,mu3⟩:=ia.at (show i3 < a.size by omega);rw[M1 eu3] at f3;refine wpS_bind (E7 ev ?_);have m4:=stepB out3 i3 j2 u3 v m3 eu3 ev (eh1 f3);refine J1 (fun z=>wpS_pure (.inl ⟨_,rfl,doneB _ _ _ _ m4 l3 (er1 (X7 z).symm)⟩)) (fun z3=> ?_);have z3:¬j2+1=b.size:=Z2 z3;refine wpS_bind (E7 eu3 ?_);refine wpS_bind (aq5 (base:=j2+1) (n:=b.size - (j2+1)) (hint:=0) C (l3.kind.trans hk) ib mu3 (show j2+1+(b.size - (j2+1))<=b.size by omega) (by omega) (fun x y h1 h2 h3=>ub x y (by omega) h2 (by omega)) fun k' kn' ka' kb'=> ?_)
           have m5:Mi (Le rk) a.toList b.toList (ei9 (out3.push v++b.extract (j2+1) (j2+1+k'))) i3 (j2+1+k'):=by
             rw[eh7,Y5]
             refine m4.manyB (fun _=>ed5 _) sb k' (by omega) fun n x hn hx z hz=> ?_
             have h:=ka' n hn;unfold J4 at h;rw[if_pos rfl,M1 (p:=x) (by rw[<-ei0];exact hx)] at h
             have hle:rk x < rk u3:=by simpa using h
             exact ee6 (eh1 hle) (af0 (fun _=>ed5 _) sa (N8 eu3) z hz)
           have gA:j2+1+k' < b.size->rk u3<=R rk b (j2+1+k'):=fun h=>by
             have h:=kb' k' (ed5 _) (by omega);unfold J4 at h;rw[if_pos rfl] at h
             simpa using h
           refine J1 (fun kz'=> ?_) (fun kz'=> ?_);refine J1 (fun z=>wpS_pure (.inl ⟨_,rfl,doneB _ _ _ _ m5 l3 (er1 (X7 z).symm)⟩)) (fun z4=> ?_);have z4:¬j2+1+k'=b.size:=Z2 z4
           have f4:j2+1+k' < b.size:=by omega
           have f5:x+1<=i3+(j2+1+k'):=by omega
           have f6:=gA f4;generalize out3.push v++b.extract (j2+1) (j2+1+k')=out4 at m5 ⊢;generalize j2+1+k'=j4 at m5 f4 f5 f6 ⊢
           rotate_left
           have k0:k'=0:=by omega
           subst k0
           have e0:out3.push v++b.extract (j2+1) (j2+1+0)=out3.push v:=by simp<;>omega
           rw[e0,el0] at m5
           have f4:j2+1 < b.size:=by omega
           have f5:x+1<=i3+(j2+1):=by omega
           have f6:=gA (by omega);rw[el0] at f6;clear e0;generalize out3.push v=out4 at m5 ⊢;generalize j2+1=j4 at m5 f4 f5 f6 ⊢
           rotate_left
           all_goals
             obtain ⟨v4,ev4,mv4⟩:=ib.at f4;rw[M1 ev4] at f6;have m6:=stepA out4 i3 j4 u3 v4 m5 eu3 ev4 f6;refine wpS_bind (E7 eu3 ?_);refine J1 (fun z=>wpS_pure (.inl ⟨_,rfl,lastA _ _ _ _ m6 l3 (X7 z)⟩)) (fun z5=> ?_);have z5:¬i3+1+1=a.size:=Z2 z5;refine J1 (fun _=> ?_) (fun _=> ?_)
             · exact wpS_pure (.inr ⟨out4.push u3,i3+1,j4,_,_,_,rfl,l3,m6,by omega,f4,by omega⟩)
             · exact wpS_pure ⟨out4.push u3,i3+1,j4,_,_,_,rfl,l3,m6,by omega,f4,by omega⟩
end
end TS
namespace TS
open PySem PyProof.Rows
def mHi:Array Keyed->Array Keyed->StateT SortSt Sem (Array Keyed):=sortPriv%PySem.Builtin.mergeHi
def Ge (rk:Keyed->Nat)(x y:Keyed):Prop:=rk y<=rk x
theorem ab4 {rk:Keyed->Nat}{l:List Keyed}(h:M5 (Le rk) l):M5 (Ge rk) l.reverse:=eq9.mpr h
theorem cv6 {rk:Keyed->Nat}{a b r:List Keyed}(h:Mg (Ge rk) b.reverse a.reverse r.reverse):Mg (Le rk) a b r:=by
 obtain ⟨p,u⟩:=h;refine ⟨?_,eq9.mp u⟩
 have e:b.reverse++a.reverse=(a++b).reverse:=by rw[ep1]
 rw[e] at p;exact (es8 r).symm.trans (p.trans (es8 _))
theorem P2 {l:List Keyed}{n:Nat}(h:n<=l.length):l.reverse.drop (l.length - n)=(l.take n).reverse:=by
 rw[List.drop_reverse];congr 2;omega
theorem ci6 {l:List Keyed}{n:Nat}{x:Keyed}(h1:1<=n)(h:l[n - 1]? =some x):l.reverse[l.length - n]? =some x:=by
 have hl:=(ed3.mp h).1;rw[et3 (by omega),<-h]
 congr 1
 omega
theorem ci7 {l:List Keyed}{m n:Nat}(h1:m<=n)(h:n<=l.length):(l.reverse.take (l.length - n+(n - m))).drop (l.length - n)=((l.take n).drop m).reverse:=by
 rw[List.drop_take,P2 h,Nat.add_sub_cancel_left,List.take_reverse,ee9]
 congr 2
 omega
theorem aq6 {rk:Keyed->Nat}{l:List Keyed}{n:Nat}{x:Keyed}(s:M5 (Le rk) l)(h1:1<=n)(h:l[n - 1]? =some x):∀y∈l.take n,rk y<=rk x:=fun y hy=>by
 obtain ⟨hl,e⟩:=ed3.mp h;obtain ⟨i,hi⟩:=eg6.mp hy;have hil:=(ed3.mp hi).1;rw[ee9] at hil;rw[ei6 (by omega),ed4 (by omega)] at hi;have ey:=Option.some.inj hi
 rcases eu7 (show i<=n - 1 by omega) with z|z
 · have:=eg8.mp s i (n - 1) (by omega) hl z;rw[ey,e] at this;exact this
 · subst z;rw[<-ey,e];exact ed5 _
section
variable {prog:Program} {w:World} {A:Around} {E:Value->Shared->Prop} {s:Shared}
variable {rk:Keyed->Nat} {a0:Array Keyed} {κ:SortKind}
def Mh (rk:Keyed->Nat)(a b out:Array Keyed)(na nb:Nat):Prop:=na<=a.size/\nb<=b.size/\Mi (Ge rk) b.toList.reverse a.toList.reverse out.toList (b.size - nb) (a.size - na)
theorem Mh.pushB {a b out:Array Keyed}{na nb:Nat}{x:Keyed}(h:Mh rk a b out na nb)(sb:M5 (Le rk) b.toList)(n1:1<=nb)(hx:b[nb - 1]? =some x)(ha:∀y∈a.toList.take na,rk y<=rk x):Mh rk a b (out.push x) na (nb - 1):=by
 obtain ⟨h1,h2,m⟩:=h;refine ⟨h1,by omega,?_⟩;have lb:b.toList.length=b.size:=ef7;have la:a.toList.length=a.size:=ef7;rw[ep0,show b.size - (nb - 1)=b.size - nb+1 by omega]
 refine m.pushA (fun _=>ed5 _) (ab4 sb) ?_ fun y hy=>ha y ?_
 · rw[<-lb];exact ci6 n1 (N8 hx)
 · rw[<-la,P2 (by omega)] at hy;exact eo7.mp hy
theorem Mh.pushA {a b out:Array Keyed}{na nb:Nat}{x:Keyed}(h:Mh rk a b out na nb)(sa:M5 (Le rk) a.toList)(n1:1<=na)(hx:a[na - 1]? =some x)(hb:∀y∈b.toList.take nb,rk y<=rk x):Mh rk a b (out.push x) (na - 1) nb:=by
 obtain ⟨h1,h2,m⟩:=h;refine ⟨by omega,h2,?_⟩;have lb:b.toList.length=b.size:=ef7;have la:a.toList.length=a.size:=ef7;rw[ep0,show a.size - (na - 1)=a.size - na+1 by omega]
 refine m.pushB (fun _=>ed5 _) (ab4 sa) ?_ fun y hy=>hb y ?_
 · rw[<-la];exact ci6 n1 (N8 hx)
 · rw[<-lb,P2 (by omega)] at hy;exact eo7.mp hy
theorem Mh.manyA {a b out:Array Keyed}{na nb m:Nat}(h:Mh rk a b out na nb)(sa:M5 (Le rk) a.toList)(hm:m<=na)(hc:∀n x,m<=n->n < na->a[n]? =some x->∀y∈b.toList.take nb,rk y<=rk x):Mh rk a b (out++(a.extract m na).reverse) m nb:=by
 obtain ⟨h1,h2,mi⟩:=h;refine ⟨by omega,h2,?_⟩;have lb:b.toList.length=b.size:=ef7;have la:a.toList.length=a.size:=ef7
 have:=mi.manyB (fun _=>ed5 _) (ab4 sa) (na - m) (by rw[eo4];omega) fun n x hn hx y hy=>hc (na - 1 - n) x (by omega) (by omega) ?_ y ?_
 · rw[<-la,ci7 hm (by omega),<-Y5,la,show a.size - na+(na - m)=a.size - m by omega] at this;rw[eh7,er4];exact this
 · rw[et3 (by omega)] at hx;rw[<-ei0,<-hx]
   congr 1
   omega
 · rw[<-lb,P2 (by omega)] at hy;exact eo7.mp hy
theorem Mh.manyB {a b out:Array Keyed}{na nb m:Nat}(h:Mh rk a b out na nb)(sb:M5 (Le rk) b.toList)(hm:m<=nb)(hc:∀n x,m<=n->n < nb->b[n]? =some x->∀y∈a.toList.take na,rk y<=rk x):Mh rk a b (out++(b.extract m nb).reverse) na m:=by
 obtain ⟨h1,h2,mi⟩:=h;refine ⟨h1,by omega,?_⟩;have lb:b.toList.length=b.size:=ef7;have la:a.toList.length=a.size:=ef7
 have:=mi.manyA (fun _=>ed5 _) (ab4 sb) (nb - m) (by rw[eo4];omega) fun n x hn hx y hy=>hc (nb - 1 - n) x (by omega) (by omega) ?_ y ?_
 · rw[<-lb,ci7 hm (by omega),<-Y5,lb,show b.size - nb+(nb - m)=b.size - m by omega] at this;rw[eh7,er4];exact this
 · rw[et3 (by omega)] at hx;rw[<-ei0,<-hx]
   congr 1
   omega
 · rw[<-la,P2 (by omega)] at hy;exact eo7.mp hy
theorem au5 (xs:Array Keyed)(j:Nat):(xs.extract 0 j).toList=xs.toList.take j:=by rw[Y5,ey3]
theorem Mh.done {a b out:Array Keyed}{na nb:Nat}(h:Mh rk a b out na nb)(sa:M5 (Le rk) a.toList)(sb:M5 (Le rk) b.toList)(z:na=0\/nb=0):Mg (Le rk) a.toList b.toList (a.extract 0 na++b.extract 0 nb++out.reverse).toList:=by
 obtain ⟨h1,h2,m⟩:=h;have lb:b.toList.length=b.size:=ef7;have la:a.toList.length=a.size:=ef7;refine cv6 ?_
 have e:(a.extract 0 na++b.extract 0 nb++out.reverse).toList.reverse=out.toList++b.toList.reverse.drop (b.size - nb)++a.toList.reverse.drop (a.size - na):=by
   rw[eh7,eh7,er4,au5,au5,ep1,ep1,List.reverse_reverse,<-la,<-lb,P2 (by omega),P2 (by omega),ef2]
 rw[e]
 rcases z with z|z
 · exact m.doneB (ab4 sb) (by rw[eo4];omega)
 · exact m.doneA (ab4 sa) (by rw[eo4];omega)
theorem Mh.first {a b out:Array Keyed}{na nb:Nat}(h:Mh rk a b out na nb)(sa:M5 (Le rk) a.toList)(sb:M5 (Le rk) b.toList)(lo:∀x∈a.toList.take na,∀y∈b.toList.take nb,rk y<=rk x):Mg (Le rk) a.toList b.toList (b.extract 0 nb++a.extract 0 na++out.reverse).toList:=by
 obtain ⟨h1,h2,m⟩:=h;have lb:b.toList.length=b.size:=ef7;have la:a.toList.length=a.size:=ef7;refine cv6 ?_
 have e:(b.extract 0 nb++a.extract 0 na++out.reverse).toList.reverse=out.toList++a.toList.reverse.drop (a.size - na)++b.toList.reverse.drop (b.size - nb):=by
   rw[eh7,eh7,er4,au5,au5,ep1,ep1,List.reverse_reverse,<-la,<-lb,P2 (by omega),P2 (by omega),ef2]
 rw[e]
 refine m.last (ab4 sb) (ab4 sa) fun x hx y hy=> ?_
 rw[<-la,P2 (by omega)] at hx;rw[<-lb,P2 (by omega)] at hy;exact lo x (eo7.mp hx) y (eo7.mp hy)
theorem dr8 {st:SortSt}{a b:Array Keyed}(C:Cm prog w A s κ rk a0)(hk:kindOf st=κ)(ia:In0 a0 a)(ib:In0 a0 b)(a1:1<=a.size)(b1:1<=b.size)(sa:M5 (Le rk) a.toList)(sb:M5 (Le rk) b.toList)
   (first:∀x,b[0]? =some x->∀y∈a.toList,Le rk x y) (last:∀x∈b.toList,∀y,a[a.size - 1]? =some y->Le rk x y):wpS (model prog w) A E s (mHi a b) (MQ rk a b st) st:=by
 have la:a.toList.length=a.size:=ef7;have lb:b.toList.length=b.size:=ef7;have ua:=an9 sa;have ub:=an9 sb;refine wpS_bind (wpS_lift (wpAny_rule ⟨rfl,?_⟩));obtain ⟨x0,ex0,mx0⟩:=ia.at (show a.size - 1 < a.size by omega);refine wpS_bind (E7 ex0 ?_)
 have doneM:∀out na nb t,Mh rk a b out na nb->N9 st t->na=0\/nb=0->MQ rk a b st (a.extract 0 na++b.extract 0 nb++Array.reverse out) t:=fun out na nb t m l z=>⟨m.done sa sb z,l⟩
 have firstM:∀out na nb t,Mh rk a b out na nb->N9 st t->nb=1->MQ rk a b st (b.extract 0 nb++a.extract 0 na++Array.reverse out) t:=fun out na nb t m l z=>by
   refine ⟨m.first sa sb fun x hx y hy=> ?_,l⟩;subst z;obtain ⟨b0,eb0,mb0⟩:=ib.at (show 0 < b.size by omega);have:=aq6 sb (ed5 1) (N8 eb0) y hy;exact ee6 this (first b0 eb0 x (ei4 hx))
 have stepA:∀out na nb x y,Mh rk a b out na nb->1<=na->1<=nb->a[na - 1]? =some x->b[nb - 1]? =some y->rk y<=rk x->Mh rk a b (out.push x) (na - 1) nb:=fun out na nb x y m h1 h2 hx hy le=>
   m.pushA sa h1 hx fun z hz=>ee6 (aq6 sb h2 (N8 hy) z hz) le
 have stepB:∀out na nb x y,Mh rk a b out na nb->1<=na->1<=nb->a[na - 1]? =some x->b[nb - 1]? =some y->rk x<=rk y->Mh rk a b (out.push y) na (nb - 1):=fun out na nb x y m h1 h2 hx hy le=>
   m.pushB sb h2 hy fun z hz=>ee6 (aq6 sa h1 (N8 hx) z hz) le
 have m0:Mh rk a b #[x0] (a.size - 1) b.size:=by
   have n:Mh rk a b #[] a.size b.size:=⟨ed5 _,ed5 _,by rw[en3,en3];exact ⟨List.Perm.refl _,List.Pairwise.nil,(fun x h=>by cases h),(fun x h=>by cases h)⟩⟩
   exact n.pushA sa a1 ex0 fun y hy=>last y (ei4 hy) x0 ex0
 refine J1 (fun z=>wpS_pure (doneM _ _ _ _ m0 (N9.refl st) (.inl (X7 z)))) (fun z1=> ?_);have z1:¬a.size - 1=0:=Z2 z1;refine J1 (fun z=>wpS_pure (firstM _ _ _ _ m0 (N9.refl st) (X7 z))) (fun z2=> ?_);have z2:¬b.size=1:=Z2 z2;refine wpS_bind (wpS_get ?_)
 refine wpS_bind (wpS_mono (wpS_forRange (I:=fun x c t=>∃na nb out g,c=(none,na,nb,out,g)/\Mh rk a b out na nb/\1<=na/\2<=nb/\x+na+nb<=a.size+b.size/\N9 st t)
   (Q:=fun c t=>∃r,c.1=some r/\MQ rk a b st r t) ?step ?fin ⟨_,_,_,_,rfl,m0,by omega,by omega,by omega,N9.refl st⟩) ?post)
 case post=>
   rintro c t ⟨r,hr,q⟩;obtain ⟨c1,c2⟩:=c;cases hr;exact wpS_pure q
 case fin=>
   rintro c t ⟨na,nb,out,g,rfl,m,h1,h2,h3,l⟩;omega
 case step=>
   rintro x c t _ xn ⟨na,nb,out,g,rfl,m,h1,h2,h3,l⟩
   refine wpS_bind (wpS_mono (wpS_forRange (I:=fun y c t'=>∃na' nb' out' p q,c=(none,na',nb',out',p,q)/\t'=t/\Mh rk a b out' na' nb'/\1<=na'/\2<=nb'/\na'+nb'+y=na+nb)
     (Q:=fun c t'=>(∃r,c.1=some r/\MQ rk a b st r t')\/(∃na' nb' out' p q,c=(none,na',nb',out',p,q)/\t'=t/\Mh rk a b out' na' nb'/\1<=na'/\2<=nb'/\x+1+na'+nb'<=a.size+b.size)) ?step2 ?fin2 ⟨_,_,_,_,_,rfl,rfl,m,h1,h2,rfl⟩) ?post2)
   case fin2=>
     rintro c t' ⟨na',nb',out',p,q,rfl,rfl,m',k1,k2,k3⟩;omega
   case step2=>
     rintro y c t' _ yn ⟨na',nb',out',p,q,rfl,rfl,m',k1,k2,k3⟩;obtain ⟨u,eu,mu⟩:=ia.at (show na' - 1 < a.size by have:=m'.1;omega);obtain ⟨v,ev,mv⟩:=ib.at (show nb' - 1 < b.size by have:=m'.2.1;omega);refine wpS_bind (E7 ev (wpS_bind (E7 eu (wpS_bind (bj9 C (l.kind.trans hk) mv mu ?_)))))
     by_cases d:rk v < rk u
     · rw[decide_eq_true d];refine J1 (fun _=> ?_) (fun h=>absurd rfl h);have m2:=stepA out' na' nb' u v m' k1 (by omega) eu ev (eh1 d);refine wpS_bind (E7 eu ?_);refine J1 (fun z=>wpS_pure (.inl ⟨_,rfl,doneM _ _ _ _ m2 l (.inl (X7 z))⟩)) (fun z=> ?_);have z:¬na' - 1=0:=Z2 z;refine J1 (fun _=> ?_) (fun _=> ?_)
       · exact wpS_pure (.inr ⟨na' - 1,nb',out'.push u,_,_,rfl,rfl,m2,by omega,k2,by omega⟩)
       · exact wpS_pure ⟨na' - 1,nb',out'.push u,_,_,rfl,rfl,m2,by omega,k2,by omega⟩
     · rw[decide_eq_false d];refine J1 (fun h=>absurd h (by decide)) (fun _=> ?_);have m2:=stepB out' na' nb' u v m' k1 (by omega) eu ev (by omega);refine wpS_bind (E7 ev ?_);refine J1 (fun z=>wpS_pure (.inl ⟨_,rfl,firstM _ _ _ _ m2 l (X7 z)⟩)) (fun z=> ?_);have z:¬nb' - 1=1:=Z2 z;refine J1 (fun _=> ?_) (fun _=> ?_)
       · exact wpS_pure (.inr ⟨na',nb' - 1,out'.push v,_,_,rfl,rfl,m2,k1,by omega,by omega⟩)
       · exact wpS_pure ⟨na',nb' - 1,out'.push v,_,_,rfl,rfl,m2,k1,by omega,by omega⟩
   case post2=>
     rintro c t' (⟨r,hr,q⟩|⟨na',nb',out',p,q,rfl,rfl,m',k1,k2,k3⟩)
     · obtain ⟨c1,c2⟩:=c;cases hr;exact wpS_pure ⟨r,rfl,q⟩
     · refine wpS_bind (wpS_lift (wpAny_rule ⟨rfl,?_⟩))
       refine wpS_bind (wpS_mono (wpS_forRange (I:=fun y c t2=>∃na2 nb2 out2 g2 p q,c=(none,na2,nb2,out2,g2,p,q)/\N9 st t2/\Mh rk a b out2 na2 nb2/\1<=na2/\2<=nb2/\x+1+na2+nb2<=a.size+b.size)
         (Q:=fun c t2=>(∃r,c.1=some r/\MQ rk a b st r t2)\/(∃na2 nb2 out2 g2 p q,c=(none,na2,nb2,out2,g2,p,q)/\N9 st t2/\Mh rk a b out2 na2 nb2/\1<=na2/\2<=nb2/\x+1+na2+nb2<=a.size+b.size)) ?step3 ?fin3 ⟨_,_,_,_,_,_,rfl,l,m',k1,k2,k3⟩) ?post3)
       case fin3=>
         rintro c t2 h;exact .inr h
       case post3=>
         rintro c t2 (⟨r,hr,q⟩|⟨na2,nb2,out2,g2,p,q,rfl,l2,m2,n1,n2,n3⟩)
         · obtain ⟨c1,c2⟩:=c;cases hr;exact wpS_pure ⟨r,rfl,q⟩
         · refine wpS_bind (dc2 l2 fun t3 l3=> ?_);exact wpS_pure ⟨_,_,_,_,rfl,m2,n1,n2,n3,l3⟩
       case step3=>
         rintro y c t2 _ yn ⟨na2,nb2,out2,g2,p,q,rfl,l2,m2,n1,n2,n3⟩;have q1:=m2.1;have q2:=m2.2.1;obtain ⟨v,ev,mv⟩:=ib.at (show nb2 - 1 < b.size by omega)
         revert g2
         refine cv5 (fun hB g2=>dg1 (fun _=>hB g2) (fun _=>hB (g2 - 1))) ?_;intro gg;refine wpS_bind (dc2 l2 fun t3 l3=> ?_);refine wpS_bind (E7 ev ?_);refine wpS_bind (aq5 (base:=0) (n:=na2) (hint:=na2 - 1) C (l3.kind.trans hk) ia mv (by omega) (by omega) (fun x y h1 h2 h3=>ua x y (by omega) h2 (by omega)) fun k kn ka kb=> ?_)
         have m3:Mh rk a b (out2++(a.extract k na2).reverse) k nb2:=m2.manyA sa kn fun n x h1 h2 hx z hz=>by
           have h:=kb n h1 h2;unfold J4 at h;rw[if_neg (by decide),eo0,M1 hx] at h
           have hle:rk v < rk x:=by simpa using h
           exact ee6 (aq6 sb (by omega) (N8 ev) z hz) (eh1 hle)
         have gA:1<=k->R rk a (k - 1)<=rk v:=fun h=>by
           have h:=ka (k - 1) (by omega);unfold J4 at h;rw[if_neg (by decide),eo0] at h
           simpa using h
         refine J1 (fun kz=> ?_) (fun kz=> ?_);have kz:na2 - k > 0:=kz;refine J1 (fun z=>wpS_pure (.inl ⟨_,rfl,doneM _ _ _ _ m3 l3 (.inl (X7 z))⟩)) (fun z1=> ?_);have z1:¬k=0:=Z2 z1
         have f1:1<=k:=by omega
         have f2:x+1+k+nb2<=a.size+b.size:=by omega
         have f3:=gA f1;generalize out2++(a.extract k na2).reverse=out3 at m3 ⊢
         rotate_left
         have kz:¬na2 - k > 0:=kz
         have k0:k=na2:=by omega
         have e0:out2++(a.extract k na2).reverse=out2:=by rw[k0];simp<;>omega
         rw[e0] at m3
         have f1:1<=k:=by omega
         have f2:x+1+k+nb2<=a.size+b.size:=by omega
         have f3:=gA f1;clear e0;subst k0;generalize out2=out3 at m3 ⊢
         rotate_left
         all_goals
           obtain ⟨u3,eu3,mu3⟩:=ia.at (show k - 1 < a.size by omega);rw[M1 eu3] at f3;refine wpS_bind (E7 ev ?_);have m4:=stepB out3 k nb2 u3 v m3 f1 (by omega) eu3 ev f3;refine J1 (fun z=>wpS_pure (.inl ⟨_,rfl,firstM _ _ _ _ m4 l3 (X7 z)⟩)) (fun z3=> ?_);have z3:¬nb2 - 1=1:=Z2 z3;refine wpS_bind (E7 eu3 ?_);refine wpS_bind (aq5 (base:=0) (n:=nb2 - 1) (hint:=nb2 - 1 - 1) C (l3.kind.trans hk) ib mu3 (by omega) (by omega) (fun x y h1 h2 h3=>ub x y (by omega) h2 (by omega)) fun k' kn' ka' kb'=> ?_)
           have m5:Mh rk a b (out3.push v++(b.extract k' (nb2 - 1)).reverse) k k':=m4.manyB sb kn' fun n x h1 h2 hx z hz=>by
             have h:=kb' n h1 h2;unfold J4 at h;rw[if_pos rfl,eo0,M1 hx] at h
             have hle:rk u3<=rk x:=by simpa using h
             exact ee6 (aq6 sa f1 (N8 eu3) z hz) hle
           have gB:1<=k'->R rk b (k' - 1) < rk u3:=fun h=>by
             have h:=ka' (k' - 1) (by omega);unfold J4 at h;rw[if_pos rfl,eo0] at h
             simpa using h
           refine J1 (fun kz'=> ?_) (fun kz'=> ?_);have kz':nb2 - 1 - k' > 0:=kz';refine J1 (fun z=>wpS_pure (.inl ⟨_,rfl,firstM _ _ _ _ m5 l3 (X7 z)⟩)) (fun z4=> ?_);have z4:¬k'=1:=Z2 z4;refine J1 (fun z=>wpS_pure (.inl ⟨_,rfl,doneM _ _ _ _ m5 l3 (.inr (X7 z))⟩)) (fun z5=> ?_);have z5:¬k'=0:=Z2 z5
           have f4:2<=k':=by omega
           have f5:x+1+k+k'<=a.size+b.size:=by omega
           have f6:=gB (by omega);generalize out3.push v++(b.extract k' (nb2 - 1)).reverse=out4 at m5 ⊢
           rotate_left
           have kz':¬nb2 - 1 - k' > 0:=kz'
           have k0':k'=nb2 - 1:=by omega
           have e0:out3.push v++(b.extract k' (nb2 - 1)).reverse=out3.push v:=by rw[k0'];simp<;>omega
           rw[e0] at m5
           have f4:2<=k':=by omega
           have f5:x+1+k+k'<=a.size+b.size:=by omega
           have f6:=gB (by omega);clear e0;generalize out3.push v=out4 at m5 ⊢
           rotate_left
           all_goals
             have q3:=m5.2.1;obtain ⟨v4,ev4,mv4⟩:=ib.at (show k' - 1 < b.size by omega);rw[M1 ev4] at f6;have m6:=stepA out4 k k' u3 v4 m5 f1 (by omega) eu3 ev4 (eh1 f6);refine wpS_bind (E7 eu3 ?_)
             first
               |refine J1 (fun z=>wpS_pure (.inl ⟨_,rfl,doneM _ _ _ _ m6 l3 (.inl (X7 z))⟩)) (fun z6=> ?_)
               |(rw[k0'] at m6;refine J1 (fun z=>wpS_pure (.inl ⟨_,rfl,doneM _ _ _ _ m6 l3 (.inl (X7 z))⟩)) (fun z6=> ?_))
             have z6:¬k - 1=0:=Z2 z6;refine J1 (fun _=> ?_) (fun _=> ?_)
             · first
                 |exact wpS_pure (.inr ⟨k - 1,k',out4.push u3,_,_,_,rfl,l3,m6,by omega,f4,by omega⟩)
                 |exact wpS_pure (.inr ⟨k - 1,nb2 - 1,out4.push u3,_,_,_,rfl,l3,m6,by omega,by omega,by omega⟩)
             · first
                 |exact wpS_pure ⟨k - 1,k',out4.push u3,_,_,_,rfl,l3,m6,by omega,f4,by omega⟩
                 |exact wpS_pure ⟨k - 1,nb2 - 1,out4.push u3,_,_,_,rfl,l3,m6,by omega,by omega,by omega⟩
end
end TS
namespace TS
open PySem PyProof.Rows
section
variable {rk:Keyed->Nat}
def P8 (xs:Array Keyed)(lo hi:Nat):List Keyed:=(xs.toList.take hi).drop lo
theorem T9 {xs:Array Keyed}{lo hi:Nat}(h:hi<=xs.size):(P8 xs lo hi).length=hi - lo:=by unfold P8;rw[eg5,ee9];simp;omega
theorem Q1 {xs:Array Keyed}{lo hi i:Nat}(hi':lo+i < hi):(P8 xs lo hi)[i]? =xs[lo+i]? :=by
 unfold P8;rw[ep7,ei6 hi',ei0]
theorem bc0 {xs:Array Keyed}{lo hi:Nat}(u:Up rk xs lo hi)(h:hi<=xs.size):M5 (Le rk) (P8 xs lo hi):=by
 refine eg8.mpr fun i j h1 h2 hij=> ?_
 have l:=T9 (lo:=lo) h;have e1:(P8 xs lo hi)[i]? =some (P8 xs lo hi)[i]:=ed4 h1;have e2:(P8 xs lo hi)[j]? =some (P8 xs lo hi)[j]:=ed4 h2;rw[Q1 (by omega)] at e1 e2;have:=u (lo+i) (lo+j) (by omega) (by omega) (by omega);rw[M1 e1,M1 e2] at this;exact this
theorem dr9 {xs:Array Keyed}{lo hi:Nat}(s:M5 (Le rk) (P8 xs lo hi))(h:hi<=xs.size):Up rk xs lo hi:=fun i j h1 h2 h3=>by
 have l:=T9 (lo:=lo) h
 rcases eu7 h2 with z|z
 · have:=eg8.mp s (i - lo) (j - lo) (by omega) (by omega) (by omega);have e1:(P8 xs lo hi)[i - lo]? =some (P8 xs lo hi)[i - lo]:=ed4 (by omega);have e2:(P8 xs lo hi)[j - lo]? =some (P8 xs lo hi)[j - lo]:=ed4 (by omega);rw[Q1 (by omega),show lo+(i - lo)=i by omega] at e1;rw[Q1 (by omega),show lo+(j - lo)=j by omega] at e2;rw[M1 e1,M1 e2];exact this
 · rw[z];exact ed5 _
theorem af2 {xs:Array Keyed}{lo hi:Nat}{x:Keyed}(h:hi<=xs.size)(hx:x∈P8 xs lo hi):∃i,lo<=i/\i < hi/\xs[i]? =some x:=by
 obtain ⟨i,hi'⟩:=eg6.mp hx;have l:=T9 (lo:=lo) h;have:=(ed3.mp hi').1;exact ⟨lo+i,by omega,by omega,by rw[<-Q1 (hi:=hi) (by omega)];exact hi'⟩
theorem af3 {xs:Array Keyed}{a b c:Nat}(h1:a<=b)(h2:b<=c)(h:c<=xs.size):P8 xs a b++P8 xs b c=P8 xs a c:=by
 refine ej2 fun i=> ?_
 by_cases z:i < b - a
 · rw[ef8 (by rw[T9 (by omega)];omega),Q1 (by omega),Q1 (by omega)]
 · rw[ef6 (by rw[T9 (by omega)];omega),T9 (by omega)]
   by_cases y:i < c - a
   · rw[Q1 (by omega),Q1 (by omega)];congr 1;omega
   · rw[ef0 (by rw[T9 h];omega),ef0 (by rw[T9 h];omega)]
theorem ci8 (xs:Array Keyed):P8 xs 0 xs.size=xs.toList:=by
 unfold P8;rw[ey3,en0 (by simp)]
def wr (p:Nat)(l:List (Keyed×Nat))(xs:Array Keyed):Array Keyed:=l.foldl (fun a q=>a.setIfInBounds (p+q.2) q.1) xs
theorem aq7 (p:Nat):∀(l:List (Keyed×Nat)) (xs:Array Keyed),(wr p l xs).size=xs.size
 |[],xs=>rfl
 |q::l,xs=>(aq7 p l _).trans (by simp)
theorem ca7 (p:Nat):∀(m:List Keyed) (n:Nat) (xs:Array Keyed),p+n+m.length<=xs.size->∀k,(wr p (m.zipIdx n) xs)[k]? =if p+n<=k/\k < p+n+m.length then m[k - (p+n)]? else xs[k]?
 |[],n,xs,_,k=>by
  show xs[k]? =_;rw[if_neg (by simp)]
 |x::m,n,xs,h,k=>by
  rw[eg3] at h ⊢;show (wr p (m.zipIdx (n+1)) (xs.setIfInBounds (p+n) x))[k]? =_;rw[ca7 p m (n+1) _ (by rw[Array.size_setIfInBounds];omega) k,Array.getElem?_setIfInBounds]
  by_cases z:k=p+n
  · subst z;rw[if_neg (by omega),if_pos rfl,if_pos (by omega),if_pos (by omega),en3];rfl
  · by_cases y:p+n<=k/\k < p+n+(m.length+1)
    · rw[if_pos (by omega),if_pos y,show k - (p+n)=k - (p+(n+1))+1 by omega];rfl
    · rw[if_neg (by omega),if_neg (by omega),if_neg y]
theorem cv7 {m:List Keyed}{p:Nat}{xs:Array Keyed}(h:p+m.length<=xs.size):P8 (wr p m.zipIdx xs) p (p+m.length)=m:=by
 refine ej2 fun i=> ?_
 by_cases z:i < m.length
 · rw[Q1 (by omega),ca7 p m 0 xs h,if_pos (by omega)]
   congr 1;omega
 · rw[ef0 (by rw[T9 (by rw[aq7];omega)];omega),ef0 (by omega)]
theorem ci9 {m:List Keyed}{p:Nat}{xs:Array Keyed}(h:p+m.length<=xs.size):E9 xs (wr p m.zipIdx xs) p (p+m.length):=fun k hk=>by
 rw[ca7 p m 0 xs h,if_neg (by omega)]
theorem au6 {xs ys:Array Keyed}{lo hi a b:Nat}(hz:ys.size=xs.size)(k:E9 xs ys lo hi)(h:b<=lo\/hi<=a)(hb:b<=xs.size):P8 ys a b=P8 xs a b:=by
 refine ej2 fun i=> ?_
 by_cases z:a+i < b
 · rw[Q1 z,Q1 z];exact k _ (by omega)
 · rw[ef0 (by rw[T9 (by omega)];omega),ef0 (by rw[T9 hb];omega)]
theorem dj7 {m:List Keyed}{p:Nat}{xs:Array Keyed}(h:p+m.length<=xs.size)(pm:m.Perm (P8 xs p (p+m.length))):(wr p m.zipIdx xs).Perm xs:=by
 rw[en2,<-ci8 xs,<-ci8 (wr p m.zipIdx xs),aq7];have hk:=ci9 h;have hs:=aq7 p m.zipIdx xs;rw[<-af3 (ef5 p) (show p<=xs.size by omega) (ed5 _),<-af3 (show p<=p+m.length by omega) (show p+m.length<=xs.size by omega) (ed5 _)];rw[<-af3 (xs:=wr p m.zipIdx xs) (ef5 p) (show p<=xs.size by omega) (by omega),<-af3 (xs:=wr p m.zipIdx xs) (show p<=p+m.length by omega) (show p+m.length<=xs.size by omega) (by omega)];rw[au6 hs hk (.inl (ed5 _)) (by omega),au6 hs hk (.inr (ed5 _)) (ed5 _),cv7 h];exact List.Perm.append_left _ (pm.append_right _)
end
end TS
namespace TS
open PySem PyProof.Rows
section
variable {prog:Program} {w:World} {A:Around} {E:Value->Shared->Prop} {s:Shared}
variable {rk:Keyed->Nat} {a0:Array Keyed} {κ:SortKind}
theorem dj8 {st:SortSt}(B:Bs a0 κ st)(lo hi:Nat):In0 a0 ((arrOf st).extract lo hi):=fun x hx=>by
 rw[Y5] at hx;exact (en2.mp B.perm).mem_iff.mp (ei4 (en7 hx))
theorem bo2 {st:SortSt}(B:Bs a0 κ st):In0 a0 (arrOf st):=fun x hx=>(en2.mp B.perm).mem_iff.mp hx
theorem cj0 {xs:Array Keyed}{lo hi i:Nat}(h:lo+i < hi):(xs.extract lo hi)[i]? =xs[lo+i]? :=by
 rw[<-ei0,Y5];exact Q1 h
theorem ds0 {st:SortSt}{i sa na nb pw pw2:Nat}{Q:Bool->SortSt->Prop}(C:Cm prog w A s κ rk a0)(B:Bs a0 κ st)(e1:(pendingOf st)[i]? =some (sa,na,pw))(e2:(pendingOf st)[i+1]? =some (sa+na,nb,pw2))(n1:1<=na)(n2:1<=nb)
   (hz:sa+na+nb<=a0.size) (u1:Up rk (arrOf st) sa (sa+na)) (u2:Up rk (arrOf st) (sa+na) (sa+na+nb))
   (h:∀t,Bs a0 κ t->Up rk (arrOf t) sa (sa+na+nb)->E9 (arrOf st) (arrOf t) sa (sa+na+nb)->pendingOf t=((pendingOf st).setIfInBounds i (sa,na+nb,pw)).eraseIdxIfInBounds (i+1)->Q true t):
   wpS (model prog w) A E s (mergeAt' i) Q st:=by
 have hs:=B.size;refine wpS_bind (wpS_get ?_);rw[show (sortPriv%PySem.Builtin.SortState.pending) st=pendingOf st from rfl,e1,e2];refine wpS_bind (wpS_modify (f:=fun _=>setPending st (((pendingOf st).setIfInBounds i (sa,na+nb,pw)).eraseIdxIfInBounds (i+1))) ?_);obtain ⟨pd,hpd⟩:∃pd,pd=((pendingOf st).setIfInBounds i (sa,na+nb,pw)).eraseIdxIfInBounds (i+1):=⟨_,rfl⟩;rw[<-hpd] at h ⊢;have B1:Bs a0 κ (setPending st pd):=⟨B.perm,B.kind,B.ok⟩;obtain ⟨xs,hxs⟩:∃xs,xs=arrOf st:=⟨_,rfl⟩;have In:=bo2 B
 have ext0:=fun lo hi=>dj8 B lo hi
 rw[<-hxs] at hs u1 u2 h In ext0
 have hxz:sa+na+nb<=xs.size:=by omega
 obtain ⟨key,ek,mk⟩:=In.at (show sa+na < xs.size by omega)
 have ek':(arrOf st)[sa+na]? =some key:=by rw[<-hxs];exact ek
 refine wpS_bind (E7 ek' ?_);refine wpS_bind (aq5 (left:=false) (arr:=arrOf st) (base:=sa) (n:=na) (hint:=0) C B1.kind (bo2 B) mk (by rw[<-hxs];omega) (by omega) (by rw[<-hxs];exact u1) fun k kn ka kb=> ?_)
 have ka1:∀i,sa<=i->i < sa+k->R rk xs i<=rk key:=fun i h1 h2=>by
   have:=ka (i - sa) (by omega);unfold J4 at this;rw[if_neg (by decide),<-hxs,show sa+(i - sa)=i by omega] at this
   simpa using this
 have kb1:∀i,sa+k<=i->i < sa+na->rk key < R rk xs i:=fun i h1 h2=>by
   have:=kb (i - sa) (by omega) (by omega);unfold J4 at this;rw[if_neg (by decide),<-hxs,show sa+(i - sa)=i by omega] at this
   simpa using this
 have rkey:R rk xs (sa+na)=rk key:=M1 ek
 have joined:(∀i,sa<=i->i < sa+na->∀j,sa+na<=j->j < sa+na+nb->R rk xs i<=R rk xs j)->Up rk xs sa (sa+na+nb):=fun g i j h1 h2 h3=>by
   by_cases y:j < sa+na
   · exact u1 i j h1 h2 y
   · by_cases z:i < sa+na
     · exact g i h1 z j (by omega) h3
     · exact u2 i j (by omega) h2 h3
 refine J1 (fun z=> ?_) (fun z=> ?_)
 · have z:na - k=0:=X7 z;refine wpS_pure (h _ B1 ?_ (by rw[hxs];exact E9.refl _ _ _) rfl);show Up rk (arrOf st) _ _;rw[<-hxs]
   refine joined fun i h1 h2 j h3 h4=> ?_
   have a1:=ka1 i h1 (by omega);have a2:=u2 (sa+na) j (ed5 _) h3 h4;omega
 have z:¬na - k=0:=Z2 z
 have ep:sa+k+(na - k) - 1=sa+na - 1:=by omega
 obtain ⟨key2,ek2,mk2⟩:=In.at (show sa+na - 1 < xs.size by omega)
 have ek2':(arrOf st)[sa+k+(na - k) - 1]? =some key2:=by rw[ep,<-hxs];exact ek2
 have rkey2:R rk xs (sa+na - 1)=rk key2:=M1 ek2;refine wpS_bind (E7 ek2' ?_);refine wpS_bind (aq5 (left:=true) (arr:=arrOf st) (base:=sa+na) (n:=nb) (hint:=nb - 1) C B1.kind (bo2 B) mk2 (by rw[<-hxs];omega) (by omega) (by rw[<-hxs];exact u2) fun k' kn' ka' kb'=> ?_)
 have ka2:∀i,sa+na<=i->i < sa+na+k'->R rk xs i < rk key2:=fun i h1 h2=>by
   have:=ka' (i - (sa+na)) (by omega);unfold J4 at this;rw[if_pos rfl,<-hxs,show sa+na+(i - (sa+na))=i by omega] at this
   simpa using this
 have kb2:∀i,sa+na+k'<=i->i < sa+na+nb->rk key2<=R rk xs i:=fun i h1 h2=>by
   have:=kb' (i - (sa+na)) (by omega) (by omega);unfold J4 at this;rw[if_pos rfl,<-hxs,show sa+na+(i - (sa+na))=i by omega] at this
   simpa using this
 refine J1 (fun z'=> ?_) (fun z'=> ?_)
 · have z':k'=0:=X7 z';refine wpS_pure (h _ B1 ?_ (by rw[hxs];exact E9.refl _ _ _) rfl);show Up rk (arrOf st) _ _;rw[<-hxs]
   refine joined fun i h1 h2 j h3 h4=> ?_
   have a1:=kb2 j (by omega) h4;have a2:=u1 i (sa+na - 1) h1 (by omega) (by omega);omega
 have z':¬k'=0:=Z2 z';have xl:(xs.extract (sa+k) (sa+na)).toList=P8 xs (sa+k) (sa+na):=Y5 _ _ _;have yl:(xs.extract (sa+na) (sa+na+k')).toList=P8 xs (sa+na) (sa+na+k'):=Y5 _ _ _
 have xz:(xs.extract (sa+k) (sa+na)).size=na - k:=by rw[Array.size_extract];omega
 have yz:(xs.extract (sa+na) (sa+na+k')).size=k':=by rw[Array.size_extract];omega
 have sx:M5 (Le rk) (xs.extract (sa+k) (sa+na)).toList:=by rw[xl];exact bc0 (fun i j h1 h2 h3=>u1 i j (by omega) h2 h3) (by omega)
 have sy:M5 (Le rk) (xs.extract (sa+na) (sa+na+k')).toList:=by rw[yl];exact bc0 (fun i j h1 h2 h3=>u2 i j h1 h2 (by omega)) (by omega)
 have fx:∀x,(xs.extract (sa+na) (sa+na+k'))[0]? =some x->∀y∈(xs.extract (sa+k) (sa+na)).toList,Le rk x y:=fun x hx y hy=>by
   rw[cj0 (by omega),el0,ek] at hx;rw[xl] at hy;obtain ⟨i,h1,h2,h3⟩:=af2 (by omega) hy;have:=kb1 i h1 h2;rw[M1 h3] at this;rw[<-Option.some.inj hx];exact eh1 this
 have ly:∀x∈(xs.extract (sa+na) (sa+na+k')).toList,∀y,(xs.extract (sa+k) (sa+na))[(xs.extract (sa+k) (sa+na)).size - 1]? =some y->Le rk x y:=fun x hx y hy=>by
   rw[xz,cj0 (by omega),show sa+k+(na - k - 1)=sa+na - 1 by omega,ek2] at hy;rw[yl] at hx;obtain ⟨i,h1,h2,h3⟩:=af2 (by omega) hx;have:=ka2 i h1 h2;rw[M1 h3] at this;rw[<-Option.some.inj hy];exact eh1 this
 have fin:∀m t,MQ rk (xs.extract (sa+k) (sa+na)) (xs.extract (sa+na) (sa+na+k')) (setPending st pd) m t->Q true (setArr t (wr (sa+k) m.toList.zipIdx (arrOf t)))/\failedOf t=none:=by
   rintro m t ⟨⟨pm,sm⟩,l⟩
   have lm:m.toList.length=na - k+k':=by rw[pm.length_eq,ed6,ef7,ef7,xz,yz]
   have ea:arrOf t=xs:=by rw[l.arr,hxs]
   have hle:sa+k+m.toList.length<=xs.size:=by omega
   have esg:P8 xs (sa+k) (sa+k+m.toList.length)=P8 xs (sa+k) (sa+na)++P8 xs (sa+na) (sa+na+k'):=by
     rw[af3 (by omega) (by omega) (by omega)];congr 1;omega
   have pm':m.toList.Perm (P8 xs (sa+k) (sa+k+m.toList.length)):=by rw[esg,<-xl,<-yl];exact pm
   have kw:=ci9 hle;have zw:=aq7 (sa+k) m.toList.zipIdx xs;refine ⟨h _ ⟨?_,l.kind.trans B1.kind,l.ok.trans B1.ok⟩ ?_ ?_ l.pend,l.ok.trans B1.ok⟩
   · show (wr (sa+k) m.toList.zipIdx (arrOf t)).Perm a0;rw[ea];refine (dj7 hle pm').trans ?_;rw[hxs];exact B.perm
   · show Up rk (wr (sa+k) m.toList.zipIdx (arrOf t)) sa (sa+na+nb);rw[ea];refine dr9 ?_ (by omega)
     rw[<-af3 (show sa<=sa+k by omega) (show sa+k<=sa+na+nb by omega) (by omega),<-af3 (show sa+k<=sa+k+m.toList.length by omega) (show sa+k+m.toList.length<=sa+na+nb by omega) (by omega),cv7 hle,
       au6 zw kw (.inl (ed5 _)) (by omega),au6 zw kw (.inr (ed5 _)) (by omega)]
     have mm:∀x∈m.toList,(∃i,sa+k<=i/\i < sa+na/\xs[i]? =some x)\/(∃i,sa+na<=i/\i < sa+na+k'/\xs[i]? =some x):=fun x hx=>by
       have:=pm.mem_iff.mp hx;rw[xl,yl] at this
       rcases ee2.mp this with e|e
       · exact .inl (af2 (by omega) e)
       · exact .inr (af2 (by omega) e)
     refine ab3.mpr ⟨bc0 (fun i j h1 h2 h3=>u1 i j h1 h2 (by omega)) (by omega),ab3.mpr ⟨sm,bc0 (fun i j h1 h2 h3=>u2 i j (by omega) h2 h3) (by omega),fun x hx y hy=> ?_⟩,fun x hx y hy=> ?_⟩
     · obtain ⟨j,j1,j2,j3⟩:=af2 (by omega) hy;have b2:=kb2 j (by omega) j2;rw[M1 j3] at b2
       rcases mm x hx with ⟨i,i1,i2,i3⟩|⟨i,i1,i2,i3⟩
       · have b1:=u1 i (sa+na - 1) (by omega) (by omega) (by omega);rw[M1 i3,rkey2] at b1;exact ee6 b1 b2
       · have b1:=ka2 i i1 i2;rw[M1 i3] at b1;show rk x<=rk y;omega
     · obtain ⟨i,i1,i2,i3⟩:=af2 (by omega) hx;have b1:=ka1 i i1 i2;rw[M1 i3] at b1;show rk x<=rk y
       rcases ee2.mp hy with e|e
       · rcases mm y e with ⟨j,j1,j2,j3⟩|⟨j,j1,j2,j3⟩
         · have b2:=kb1 j j1 j2;rw[M1 j3] at b2;omega
         · have b2:=u2 (sa+na) j (ed5 _) j1 (by omega);rw[M1 j3,rkey] at b2;omega
       · obtain ⟨j,j1,j2,j3⟩:=af2 (by omega) e;have b2:=u2 (sa+na) j (ed5 _) (by omega) j2;rw[M1 j3,rkey] at b2;omega
   · show E9 xs (wr (sa+k) m.toList.zipIdx (arrOf t)) _ _;rw[ea];exact kw.wide (by omega) (by omega)
 have ix:=ext0 (sa+k) (sa+na);have iy:=ext0 (sa+na) (sa+na+k');have k1:kindOf (setPending st pd)=κ:=B1.kind
 have end_:∀m t,MQ rk (xs.extract (sa+k) (sa+na)) (xs.extract (sa+na) (sa+na+k')) (setPending st pd) m t->Q (failedOf (setArr t (wr (sa+k) m.toList.zipIdx (arrOf t)))).isNone (setArr t (wr (sa+k) m.toList.zipIdx (arrOf t))):=fun m t q=>by
   obtain ⟨f1,f2⟩:=fin m t q;show Q (failedOf t).isNone _;rw[f2];exact f1
 rw[hxs] at ix iy sx sy fx ly end_ xz yz
 have g1:1<=((arrOf st).extract (sa+k) (sa+na)).size:=by rw[xz];omega
 have g2:1<=((arrOf st).extract (sa+na) (sa+na+k')).size:=by rw[yz];omega
 refine J1 (fun _=> ?_) (fun _=> ?_)
 · refine wpS_bind (wpS_mono (dr7 C k1 ix iy g1 g2 sx sy fx ly) fun m t q=> ?_);exact wpS_bind (wpS_modify (wpS_bind (wpS_get (wpS_pure (end_ m t q)))))
 · refine wpS_bind (wpS_mono (dr8 C k1 ix iy g1 g2 sx sy fx ly) fun m t q=> ?_);exact wpS_bind (wpS_modify (wpS_bind (wpS_get (wpS_pure (end_ m t q)))))
end
end TS
namespace TS
open PySem PyProof.Rows
section
variable {rk:Keyed->Nat}
def K3 (rk:Keyed->Nat)(xs:Array Keyed):List (Nat×Nat×Nat)->Nat->Nat->Prop
 |[],a,b=>a=b
 |q::r,a,b=>q.1=a/\1<=q.2.1/\Up rk xs a (a+q.2.1)/\K3 rk xs r (a+q.2.1) b
theorem K3.len {xs:Array Keyed}:∀{l:List (Nat×Nat×Nat)} {a b:Nat},K3 rk xs l a b->a+l.length<=b
 |[],a,b,h=>er1 h
 |q::r,a,b,⟨h1,h2,h3,h4⟩=>by
  have:=K3.len h4;rw[eg3];omega
theorem K3.app {xs:Array Keyed}:∀{l m:List (Nat×Nat×Nat)} {a b:Nat},K3 rk xs (l++m) a b↔∃c,K3 rk xs l a c/\K3 rk xs m c b
 |[],m,a,b=>⟨fun h=>⟨a,rfl,h⟩,fun ⟨c,e,h⟩=>by cases e;exact h⟩
 |q::r,m,a,b=>by
  constructor
  · rintro ⟨h1,h2,h3,h4⟩;obtain ⟨c,g1,g2⟩:=K3.app.mp h4;exact ⟨c,⟨h1,h2,h3,g1⟩,g2⟩
  · rintro ⟨c,⟨h1,h2,h3,h4⟩,g⟩;exact ⟨h1,h2,h3,K3.app.mpr ⟨c,h4,g⟩⟩
theorem K3.kept {xs ys:Array Keyed}{lo hi:Nat}(k:E9 xs ys lo hi):∀{l:List (Nat×Nat×Nat)} {a b:Nat},K3 rk xs l a b->b<=lo\/hi<=a->K3 rk ys l a b
 |[],a,b,h,_=>h
 |q::r,a,b,⟨h1,h2,h3,h4⟩,hk=>by
  have:=K3.len h4;exact ⟨h1,h2,k.up h3 (by omega),K3.kept k h4 (by omega)⟩
theorem bs4 {α:Type}:∀(l:List α) (x y z:α) (m:List α),((l++x::y::m).set l.length z).eraseIdx (l.length+1)=l++z::m
 |[],x,y,z,m=>rfl
 |a::l,x,y,z,m=>by
  show a::(((l++x::y::m).set l.length z).eraseIdx (l.length+1))=_;rw[bs4 l x y z m];rfl
theorem ds1 {α:Type}{l:List α}{i:Nat}(h:i+1 < l.length):l=l.take i++l[i]::l[i+1]::l.drop (i+2):=by
 have e1:=el5 (show i < l.length by omega);have e2:=el5 h;rw[<-e2,<-e1,ei8]
theorem cj1 {xs:Array Keyed}{pw:Nat}:∀{l:List (Nat×Nat×Nat)} {n a b:Nat},K3 rk xs l a b->K3 rk xs (l.modify n fun q=>(q.1,q.2.1,pw)) a b
 |[],n,a,b,h=>by cases n<;>exact h
 |q::r,0,a,b,⟨h1,h2,h3,h4⟩=>⟨h1,h2,h3,h4⟩
 |q::r,n+1,a,b,⟨h1,h2,h3,h4⟩=>⟨h1,h2,h3,cj1 h4⟩
end
section
variable {prog:Program} {w:World} {A:Around} {E:Value->Shared->Prop} {s:Shared}
variable {rk:Keyed->Nat} {a0:Array Keyed} {κ:SortKind}
theorem cv8 {st:SortSt}{i lo:Nat}{Q:Bool->SortSt->Prop}(C:Cm prog w A s κ rk a0)(B:Bs a0 κ st)(cv:K3 rk (arrOf st) (pendingOf st).toList 0 lo)(hl:lo<=a0.size)(hi:i+1 < (pendingOf st).size)
   (h:∀t,Bs a0 κ t->K3 rk (arrOf t) (pendingOf t).toList 0 lo->(pendingOf t).size+1=(pendingOf st).size->E9 (arrOf st) (arrOf t) 0 lo->Q true t):wpS (model prog w) A E s (mergeAt' i) Q st:=by
 obtain ⟨l,hl0⟩:∃l,l=(pendingOf st).toList:=⟨_,rfl⟩
 have ll:l.length=(pendingOf st).size:=by rw[hl0];simp
 have hil:i+1 < l.length:=by omega
 have e:=ds1 hil;rw[<-hl0,e] at cv;obtain ⟨c,c1,d1,d2,d3,f1,f2,f3,g⟩:=K3.app.mp cv;have lg:=K3.len g
 have e1:(pendingOf st)[i]? =some (c,l[i].2.1,l[i].2.2):=by
   rw[<-ei0,<-hl0,ed4 (by omega),<-d1]
 have e2:(pendingOf st)[i+1]? =some (c+l[i].2.1,l[i+1].2.1,l[i+1].2.2):=by
   rw[<-ei0,<-hl0,ed4 hil,<-f1]
 refine ds0 C B e1 e2 d2 f2 (by omega) d3 f3 fun t B' u k p=> ?_
 have lt:(l.take i).length=i:=by rw[ee9];omega
 have ep:(pendingOf t).toList=l.take i++(c,l[i].2.1+l[i+1].2.1,l[i].2.2)::l.drop (i+2):=by
   rw[p,Array.toList_eraseIdxIfInBounds,Array.toList_setIfInBounds,<-hl0];have:=bs4 (l.take i) l[i] l[i+1] (c,l[i].2.1+l[i+1].2.1,l[i].2.2) (l.drop (i+2));rw[lt,<-e] at this;exact this
 have lc:=K3.len c1;refine h t B' ?_ ?_ (k.wide (ef5 _) (by omega))
 · rw[ep];refine K3.app.mpr ⟨c,K3.kept k c1 (.inl (ed5 _)),rfl,by show 1<=l[i].2.1+l[i+1].2.1;omega,?_,?_⟩
   · show Up rk (arrOf t) c (c+(l[i].2.1+l[i+1].2.1));rw[<-er6];exact u
   · show K3 rk (arrOf t) (l.drop (i+2)) (c+(l[i].2.1+l[i+1].2.1)) lo;rw[<-er6];exact K3.kept k g (.inr (ed5 _))
 · rw[<-ef7,ep,ed6,eg3,eg5,lt];omega
theorem dw4 {c:Prop}[Decidable c]{a b n:Nat}(h1:a<=n)(h2:b<=n):(if c then a else b)<=n:=by split<;>assumption
theorem dc3 {t:SortSt}{lo n:Nat}(cv:K3 rk (arrOf t) (pendingOf t).toList 0 lo)(n1:1<=n)(u:Up rk (arrOf t) lo (lo+n)):K3 rk (arrOf t) ((pendingOf t).push (lo,n,0)).toList 0 (lo+n):=by
 rw[ep0];exact K3.app.mpr ⟨lo,cv,rfl,n1,u,rfl⟩
theorem eb8 {st:SortSt}{Q:Unit->SortSt->Prop}(C:Cm prog w A s κ rk a0)(B:Bs a0 κ st)(pe:pendingOf st= #[])(h2:2<=a0.size)
   (h:∀t,Bs a0 κ t->Up rk (arrOf t) 0 a0.size->Q () t):wpS (model prog w) A E s sortRuns' Q st:=by
 rw[sortRuns'_eq];refine wpS_bind (wpS_get ?_)
 dsimp only
 rw[B.size];generalize minRun' a0.size a0.size 0=mr
 refine wpS_bind (wpS_mono (wpS_forRange (I:=fun x c t=>∃lo,c=(none,lo)/\Bs a0 κ t/\K3 rk (arrOf t) (pendingOf t).toList 0 lo/\lo<=a0.size/\(x<=lo\/a0.size<=lo))
   (Q:=fun c t=>∃lo,c=(none,lo)/\Bs a0 κ t/\K3 rk (arrOf t) (pendingOf t).toList 0 lo/\lo=a0.size) ?step ?fin ⟨0,rfl,B,by rw[pe];exact rfl,ef5 _,.inl (ed5 _)⟩) ?post)
 case fin=>
   rintro c t ⟨lo,rfl,B',cv,h3,h4⟩;exact ⟨lo,rfl,B',cv,by omega⟩
 case step=>
   rintro x c t _ xn ⟨lo,rfl,B',cv,h3,h4⟩;refine J1 (fun z=>wpS_pure ⟨lo,rfl,B',cv,by have z:lo≥a0.size:=z;omega⟩) (fun z=> ?_);have z:¬lo≥a0.size:=z;refine wpS_bind (wpS_mono (dr5 (lo:=lo) (nrem:=a0.size - lo) C (by omega) (by omega) B') ?_);rintro r t1 ⟨n,rfl,B1,n1,n2,u1,k1,p1⟩
   have cv1:K3 rk (arrOf t1) (pendingOf t1).toList 0 lo:=by rw[p1];exact K3.kept k1 cv (.inl (ed5 _))
   clear k1 p1;refine J1 (fun y=> ?_) (fun y=> ?_);have y:n < mr:=y;refine wpS_bind (wpS_lift (wpAny_rule ⟨rfl,?_⟩));refine wpS_bind (dr4 (lo:=lo) (n:=min (a0.size - lo) mr) (ok:=n) C (by omega) (by omega) B1 u1 fun t2 B2 u2 k2 p2=> ?_);refine J1 (fun h=>absurd h (by decide)) (fun _=> ?_)
   have cv2:K3 rk (arrOf t2) (pendingOf t2).toList 0 lo:=by rw[p2];exact K3.kept k2 cv1 (.inl (ed5 _))
   have N1:1<=min (a0.size - lo) mr:=by omega
   have N2:lo+min (a0.size - lo) mr<=a0.size:=by omega
   clear p2 k2;generalize min (a0.size - lo) mr=N at u2 N1 N2 ⊢
   rotate_left
   have N1:1<=n:=n1
   have N2:lo+n<=a0.size:=by omega
   have B2:=B1;have u2:=u1;have cv2:=cv1;generalize t1=t2 at B2 u2 cv2 ⊢;generalize n=N at N1 N2 u2 ⊢
   rotate_left
   all_goals
     refine wpS_bind (wpS_get ?_)
     cases hb:(pendingOf t2).back? with
     |none=>
      exact wpS_bind (wpS_modify (wpS_pure ⟨lo+N,rfl,⟨B2.perm,B2.kind,B2.ok⟩,dc3 cv2 N1 u2,N2,by omega⟩))
     |some q=>
      obtain ⟨s1,m1,pw⟩:=q
      refine wpS_bind (wpS_mono (wpS_forRange (I:=fun y c t=>c=(none,())/\Bs a0 κ t/\K3 rk (arrOf t) (pendingOf t).toList 0 lo/\Up rk (arrOf t) lo (lo+N))
        (Q:=fun c t=>c=(none,())/\Bs a0 κ t/\K3 rk (arrOf t) (pendingOf t).toList 0 lo/\Up rk (arrOf t) lo (lo+N)) ?_ (fun _ _ h=>h) ⟨rfl,B2,cv2,u2⟩) ?_)
      · rintro y c t3 _ yn ⟨rfl,B3,cv3,u3⟩;refine wpS_bind (wpS_get ?_)
        by_cases g:(pendingOf t3).size > 1
        · rw[if_pos g,ev9 (show (pendingOf t3).size - 2 < (pendingOf t3).size by omega)];refine J1 (fun _=>wpS_pure ⟨rfl,B3,cv3,u3⟩) (fun _=> ?_);refine wpS_bind (cv8 C B3 cv3 (by omega) (by omega) fun t4 B4 cv4 sz k4=> ?_);refine J1 (fun h=>absurd h (by decide)) (fun _=> ?_);exact wpS_pure ⟨rfl,B4,cv4,k4.up u3 (.inr (ed5 _))⟩
        · rw[if_neg g];exact wpS_pure ⟨rfl,B3,cv3,u3⟩
      · rintro c t3 ⟨rfl,B3,cv3,u3⟩;refine wpS_bind (wpS_modify (wpS_bind (wpS_modify (wpS_pure ⟨lo+N,rfl,⟨B3.perm,B3.kind,B3.ok⟩,?_,N2,by omega⟩))));show K3 rk (arrOf t3) (ei9 (Array.push (Array.modify (pendingOf t3) _ _) (lo,N,0))) 0 (lo+N);rw[ep0,Array.toList_modify];exact K3.app.mpr ⟨lo,cj1 cv3,rfl,N1,u3,rfl⟩
 case post=>
   rintro c t ⟨lo,rfl,B',cv,rfl⟩
   dsimp only
   have lc:=K3.len cv
   refine wpS_bind (wpS_mono (wpS_forRange (I:=fun x c t=>c=(none,())/\Bs a0 κ t/\K3 rk (arrOf t) (pendingOf t).toList 0 a0.size/\((pendingOf t).size<=1\/(pendingOf t).size+x<=a0.size))
     (Q:=fun c t=>c=(none,())/\Bs a0 κ t/\K3 rk (arrOf t) (pendingOf t).toList 0 a0.size/\(pendingOf t).size<=1) ?stepE ?finE ⟨rfl,B',cv,.inr (by rw[<-ef7];omega)⟩) ?postE)
   case finE=>
     rintro c t ⟨rfl,B',cv,z⟩;exact ⟨rfl,B',cv,by omega⟩
   case stepE=>
     rintro x c t _ xn ⟨rfl,B',cv,z⟩;refine wpS_bind (wpS_get ?_);refine J1 (fun y=>wpS_pure ⟨rfl,B',cv,y⟩) (fun y=> ?_);have y:¬(pendingOf t).size<=1:=y;refine wpS_bind (cv8 C B' cv (ed5 _) ?_ fun t2 B2 cv2 sz _=> ?_)
     · exact eg1 (et0 (dw4 (n:=(pendingOf t).size - 2) (by omega) (ed5 _))) (by omega)
     · exact wpS_pure ⟨rfl,B2,cv2,by omega⟩
   case postE=>
     rintro c t ⟨rfl,B',cv,z⟩;refine wpS_pure (h t B' ?_);obtain ⟨l,hl⟩:∃l,l=(pendingOf t).toList:=⟨_,rfl⟩
     have ll:l.length<=1:=by rw[hl,ef7];exact z
     rw[<-hl] at cv
     match l,ll,cv with
     |[],_,cv=>have:0=a0.size:=cv;omega
     |[q],_,⟨c1,c2,c3,c4⟩=>
      have c4:0+q.2.1=a0.size:=c4;rw[c4] at c3;exact c3
end
end TS
namespace L2
open PySem PySem.Spec PyProof.Rows
section
variable {prog:Program} {w:World} {A:Around} {E:Value->Shared->Prop} {s:Shared}
structure bk2 (prog:Program)(w:World)(A:Around)(s:Shared)(rk:Value->Nat)(vs:List Value):Prop where
 kind:2<=vs.length->∀(Q:SortKind->Shared->Prop) (E:Value->Shared->Prop),Q oneType' s->wpAny (model prog w) A (keyKind' vs.toArray) Q E s
 less:∀x∈vs,∀y∈vs,∀(Q:Bool->Shared->Prop) (E:Value->Shared->Prop),Q (decide (rk x < rk y)) s->wpAny (model prog w) A (oneLt' true x y) Q E s
theorem bo3 {vs:List Value}{p:Keyed}(h:p∈(pairsOf vs).toList):p.1∈vs/\p.2=p.1:=by
 rw[pairsOf_toList] at h;obtain ⟨i,hi⟩:=eg6.mp h;obtain ⟨x,y⟩:=p;rw[List.getElem?_zip_eq_some] at hi;obtain ⟨e1,e2⟩:=hi;rw[e1] at e2;exact ⟨ee1 e1,(Option.some.inj e2).symm⟩
theorem ds2 {rk:Value->Nat}{vs:List Value}{xs:Array Keyed}(hp:xs.Perm (pairsOf vs))(u:TS.Up (fun p=>rk p.1) xs 0 xs.size):(xs.map (·.2)).toList.Perm vs/\(xs.map (·.2)).toList.Pairwise (fun x y=>rk x<=rk y):=by
 have pl:=en2.mp hp
 have e:xs.toList.map (·.2)=xs.toList.map (·.1):=ej9 fun p hp'=>(bo3 (pl.mem_iff.mp hp')).2
 rw[ew6];constructor
 · refine (pl.map _).trans ?_;rw[<-ew6,bs3]
 · show List.Pairwise _ (xs.toList.map (·.2));rw[e];exact em6.mpr (TS.dy3 u)
theorem dw5 {rk:Value->Nat}{vs:List Value}(h:bk2 prog w A s rk vs):TS.Cm prog w A s oneType' (fun p=>rk p.1) (pairsOf vs):=fun x hx y hy Q E' q=>by
 rw[keyLt'_oneType];exact h.less x.1 (bo3 hx).1 y.1 (bo3 hy).1 Q E' q
theorem dw6 {a:Addr}{vs:List Value}{rk:Value->Nat}{n:Nat}{P:Fin->Shared->Prop}(ho:s.heap.get? a=some (seqObj "list" vs.toArray n))(hl:vs.length<=sizeLine)
   (ok:∀h':Heap,(∀b o,b≠a->s.heap.get? b=some o->h'.get? b=some o)->bk2 prog w A {s with heap:=h'} rk vs)
   (h:∀out:List Value,out.Perm vs->out.Pairwise (fun x y=>rk x<=rk y)->P (.done (.ret .none)) {s with heap:=sortedHeap s.heap a vs out.toArray}):wpAny (model prog w) A (Builtin.«list.sort» ⟨[.ref a],[]⟩) P E s:=by
 rw[list_sort_plain];have ha:a < s.heap.objs.size:=Heap.lt_size ho
 have hsz:vs.toArray.size=vs.length:=by simp
 refine wpAny_bind (listItems_at ho rfl ?_);refine wpAny_bind (listUpdate_at ho rfl ?_ (by rw[hsz];exact hl) (ef5 _));obtain ⟨e1,ho1⟩:∃e1,(s.heap.update a (Obj.mapSeq fun _=> #[])).get? a=some (seqObj "list" #[] e1):=⟨_,get?_update_seq ho (fun _=> #[])⟩;refine wpAny_bind (seqEpoch_at ho1 rfl ?_);refine wpAny_bind (wpAny_newTuple ?_ (hsz:=hl));refine wpAny_bind (wpAny_newList ?_);refine wpAny_holding ?_;obtain ⟨H6,e6⟩:∃H6,H6=((s.heap.update a (Obj.mapSeq fun _=> #[])).push (seqObj "tuple" vs.toArray 0)).push (seqObj "list" #[] 0):=⟨_,rfl⟩
 have ho6:H6.get? a=some (seqObj "list" #[] e1):=by
   rw[e6,Heap.get?_push_ne _ _ _ (by rw[size_push',Heap.size_update];exact eh5 (ev8 ha)),Heap.get?_push_ne _ _ _ (by rw[Heap.size_update];exact eh5 ha)];exact ho1
 have old:∀b o,b≠a->s.heap.get? b=some o->H6.get? b=some o:=by
   intro b o nb hb;rw[e6];refine Heap.get?_push_of_some _ (Heap.get?_push_of_some _ ?_);rw[Heap.get?_update_ne _ _ _ _ nb];exact hb
 have ok6:=ok H6 old;show wpAny (model prog w) A _ P E {s with heap:=((s.heap.update a (Obj.mapSeq fun _=> #[])).push (seqObj "tuple" vs.toArray 0)).push (seqObj "list" #[] 0)};unfold sortedHeap at h;rw[<-e6] at h ⊢
 dsimp only
 by_cases h2:vs.toArray.size < 2
 · rw[if_pos h2,if_pos h2];refine wpAny_bind (wpAny_pure ?_);rw[StateT.run_pure];refine wpAny_bind (wpAny_pure ?_)
   dsimp only
   refine wpAny_bind (seqEpoch_at ho6 rfl ?_);have ee:(arrOf (SortSt.mk' general' (vs.toArray.zip vs.toArray) #[] 7 none)).map (·.2)=vs.toArray:=bs3 vs;rw[ee];refine wpAny_bind (listUpdate_at ho6 rfl ?_ (ef5 _) (by rw[hsz];omega));simp only[bne_self_eq_false,el7,if_false];refine wpAny_pure (h vs (List.Perm.refl _) ?_)
   match vs,hsz,h2 with
   |[],_,_=>exact List.Pairwise.nil
   |[_],_,_=>exact ep5 _ _
   |_::_::_,_,h2=>simp at h2;omega
 · rw[if_neg h2,if_neg h2];refine wpAny_bind (ok6.kind (by omega) _ _ ?_)
   refine wpAny_bind (wpAny_mono (TS.eb8 (s:={s with heap:=H6}) (st:=SortSt.mk' oneType' (vs.toArray.zip vs.toArray) #[] 7 none) (a0:=pairsOf vs) (rk:=fun p=>rk p.1)
     (Q:=fun _ st'=>(arrOf st').Perm (pairsOf vs)/\failedOf st'=none/\TS.Up (fun p=>rk p.1) (arrOf st') 0 (pairsOf vs).size) (dw5 ok6) ⟨Array.Perm.refl _,rfl,rfl⟩ rfl (by rw[pairsOf_size];omega) fun t B u=>⟨B.perm,B.ok,u⟩) ?_ fun _ _ e=>e)
   rintro ⟨⟨⟩,st'⟩ s' ⟨rfl,hp,hf,hu⟩
   dsimp only
   rw[<-hp.size_eq] at hu;obtain ⟨o1,o2⟩:=ds2 hp hu;refine wpAny_bind (seqEpoch_at ho6 rfl ?_);refine wpAny_bind (listUpdate_at ho6 rfl ?_ (ef5 _) (by rw[Array.size_map,hp.size_eq,pairsOf_size];omega));rw[hf];simp only[bne_self_eq_false,el7,if_false];have:=h _ o1 o2;rw[Array.toArray_toList] at this;exact wpAny_pure this
theorem dj9 {l:Addr}{vs:List Value}{rk:Value->Nat}{Q:Value->Shared->Prop}(pl:s.heap.IsList l vs.toArray)(hl:vs.length<=sizeLine)
   (ok:∀h':Heap,(∀b o,b < s.heap.objs.size->s.heap.get? b=some o->h'.get? b=some o)->bk2 prog w A.in1.in1 {s with heap:=h'} rk vs)
   (h:∀out:List Value,out.Perm vs->out.Pairwise (fun x y=>rk x<=rk y)->Q (.ref (s.heap.objs.size+1)) {s with heap:=sortedAll s.heap vs out.toArray}):wpAny (model prog w) A (call (.builtin "sorted") [.ref l]) Q E s:=by
 refine Calls.call_function_entry kind_sorted plain_sorted entry_sorted (args_sorted1 _) ?_;unfold Builtin.«sorted»;refine wpAny_bind (m:=checkCount "sorted" 1 1 _) (wpAny_pure ?_);refine wpAny_bind (collect_list pl ?_ hl);refine wpAny_bind (wpAny_newList ?_ (hsz:=hl))
 have hsz:((s.heap.push (seqObj "list" #[] 0)).update s.heap.objs.size (Obj.mapSeq (· ++vs.toArray))).objs.size=s.heap.objs.size+1:=by
   rw[Heap.size_update,size_push']
 have hoL:(((s.heap.push (seqObj "list" #[] 0)).update s.heap.objs.size (Obj.mapSeq (· ++vs.toArray))).push (seqObj "list" vs.toArray 0)).get? (s.heap.objs.size+1)=some (seqObj "list" vs.toArray 0):=by
   rw[<-hsz];exact Heap.get?_push_size _ rfl
 show wpAny _ _ _ _ _ {s with heap:=((s.heap.push (seqObj "list" #[] 0)).update s.heap.objs.size (Obj.mapSeq (· ++vs.toArray))).push (seqObj "list" vs.toArray 0)};rw[hsz];refine wpAny_bind (wpAny_holding (wpAny_call_entry slot_list_sort ⟨_,hoL,rfl⟩ entry_list_sort (dw6 hoL hl (rk:=rk) (fun h' old=>ok h' fun b o lt e=>old b o (eh5 (ev8 lt)) ?_) fun out o1 o2=>⟨_,rfl,?_⟩) (args_list_sort _)))
 · refine Heap.get?_push_of_some _ ?_;rw[Heap.get?_update_ne _ _ _ _ (eh5 lt)];exact Heap.get?_push_of_some _ e
 · exact wpAny_pure ⟨_,rfl,h out o1 o2⟩
end
end L2
namespace L2
open PySem PySem.Spec PyProof.Rows
section
variable {α:Type}
theorem au7 {p q:α->Bool}(h:∀a,p a=true->q a=true):∀{l:List α} {x:α},x∈l->p x=false->q x=true->l.countP p < l.countP q
 |[],x,hx,_,_=>by cases hx
 |y::l,x,hx,px,qx=>by
  have le:l.countP p<=l.countP q:=List.countP_mono_left fun a _=>h a
  rw[et2,et2]
  by_cases e:x=y
  · subst e;rw[px,qx];simp;omega
  · have hx':x∈l:=by
      rcases ee8.mp hx with z|z
      · exact absurd z e
      · exact z
    have:=au7 h hx' px qx
    cases hp:p y with
    |false=>simp;split<;>omega
    |true=>rw[h y hp];simp;omega
def az2 (lt:α->α->Bool)(l:List α)(x:α):Nat:=l.countP fun y=>lt y x
theorem dk0 {lt:α->α->Bool}(ir:∀a,lt a a=false)(tr:∀a b c,lt a b=true->lt b c=true->lt a c=true)(tot:∀a b,lt a b=false->lt b a=true\/a=b){l:List α}{x y:α}(hx:x∈l)(hy:y∈l):decide (az2 lt l x < az2 lt l y)=lt x y:=by
 unfold az2
 cases h:lt x y with
 |true=>exact decide_eq_true (au7 (fun a ha=>tr a x y ha h) hx (ir x) h)
 |false=>
  refine decide_eq_false ?_
  rcases tot x y h with z|z
  · have:=au7 (fun a ha=>tr a y x ha z) hy (ir y) z;omega
  · rw[z];omega
theorem dk1 {lt:α->α->Bool}(ir:∀a,lt a a=false)(tr:∀a b c,lt a b=true->lt b c=true->lt a c=true){l:List α}{x y:α}(hy:y∈l)(h:az2 lt l x<=az2 lt l y):lt y x=false:=by
 cases z:lt y x with
 |false=>rfl
 |true=>
  have:=au7 (l:=l) (fun a ha=>tr a y x ha z) hy (ir y) z;unfold az2 at h;omega
end
theorem bo4:∀a:List Int,HT.bb3 a a=false
 |[]=>rfl
 |x::a=>by rw[HT.cl6,if_pos rfl];exact bo4 a
theorem cj2:∀a b:List Int,HT.bb3 a b=false->HT.bb3 b a=true\/a=b
 |[],[],_=> .inr rfl
 |[],_::_,h=>by rw[HT.dh3] at h;cases h
 |_::_,[],_=> .inl rfl
 |x::a,y::b,h=>by
  rw[HT.cl6] at h ⊢
  by_cases e:x=y
  · rw[if_pos e] at h;rw[if_pos e.symm]
    rcases cj2 a b h with z|z
    · exact .inl z
    · exact .inr (by rw[e,z])
  · rw[if_neg e] at h;rw[if_neg (fun z=>e z.symm)];have:=of_decide_eq_false h;exact .inl (decide_eq_true (by omega))
theorem ca8:∀a b c:List Int,HT.bb3 a b=true->HT.bb3 b c=true->HT.bb3 a c=true
 |[],[],_,h,_=>by cases h
 |_::_,[],_,h,_=>by cases h
 |_,_::_,[],_,h=>by cases h
 |[],_::_,_::_,_,_=>rfl
 |x::a,y::b,z::c,h,g=>by
  rw[HT.cl6] at h g ⊢
  by_cases e:x=y
  · subst e;rw[if_pos rfl] at h
    by_cases e2:x=z
    · subst e2;rw[if_pos rfl] at g ⊢;exact ca8 a b c h g
    · rw[if_neg e2] at g ⊢;exact g
  · rw[if_neg e] at h;have h1:=of_decide_eq_true h
    by_cases e2:y=z
    · subst e2;rw[if_neg e];exact h
    · rw[if_neg e2] at g;have g1:=of_decide_eq_true g;rw[if_neg (by omega)];exact decide_eq_true (by omega)
section
variable {prog:Program} {w:World} {A:Around} {E:Value->Shared->Prop} {s:Shared}
theorem cv9 (hu:A.units < cLine){x y:Value}{ns ms:List Int}(hx:an8 s.heap x ns)(hy:an8 s.heap y ms){Q:Bool->Shared->Prop}(q:Q (HT.bb3 ns ms) s):wpAny (model prog w) A (oneLt' true x y) Q E s:=by
 obtain ⟨p,xs,n,rfl,ox,ix⟩:=hx;obtain ⟨p2,ys,m,rfl,oy,iy⟩:=hy;rw[oneLt'_eq];simp only[if_true];refine wpAny_bind (wpAny_cRoomFor hu ?_);refine wpAny_bind (wpAny_callSpecialIfBound?_slot (T:="list") ⟨_,ox,rfl⟩ PySem.F.slot_list_lt (call_meets PySem.F.slot_list_lt ⟨_,ox,rfl⟩ PySem.F.entry_list_lt (PySem.F.args_list_lt_2 _ _) (HT.dr3 p p2 xs ys n m ns ms ix iy) ⟨⟨ox,oy⟩,?_⟩));exact wpAny_truthy_bool q
def adr:Value->Addr
 | .ref a=>a
 |_=>0
theorem ao0:∀{bs:List Addr} {us:List Value},n6 (bs.map V.ref) us->us=bs.map Value.ref
 |[],us,h=>by cases h;rfl
 |b::bs,us,h=>by
  cases h with
  |cons h1 h2=>
   cases h1;rw[ao0 h2];rfl
theorem bs5:∀bs:List Addr,n6 (bs.map V.ref) (bs.map Value.ref)
 |[]=> .nil
 |b::bs=> .cons rfl (bs5 bs)
theorem dc4 {bs:List Addr}{R:Addr->List Int}(hu:A.units < cLine)(row:∀b∈bs,an8 s.heap (.ref b) (R b)):bk2 prog w A s (fun v=>az2 HT.bb3 (bs.map R) (R (adr v))) (bs.map Value.ref):=by
 constructor
 · intro h2 Q E q
   match bs,h2,row with
   |[],h2,_=>simp at h2
   |[_],h2,_=>simp at h2
   |b1::b2::bs,_,row=>
    have hr:∀v,v∈Value.ref b1::Value.ref b2::bs.map Value.ref->∃ns,an8 s.heap v ns:=fun v hv=>by
      obtain ⟨b,hb,rfl⟩:=ee5.mp (show v∈(b1::b2::bs).map Value.ref from hv);exact ⟨_,row b hb⟩
    exact cu9 hr q
 · intro x hx y hy Q E q;obtain ⟨b,hb,rfl⟩:=ee5.mp hx;obtain ⟨c,hc,rfl⟩:=ee5.mp hy;refine cv9 hu (row b hb) (row c hc) ?_;have:=dk0 bo4 ca8 cj2 (l:=bs.map R) (ee5.mpr ⟨b,hb,rfl⟩) (ee5.mpr ⟨c,hc,rfl⟩);show Q (HT.bb3 (R b) (R c)) s;rw[<-this];exact q
end
end L2
namespace L2
open PySem PySem.Spec PyProof.Rows
section
variable {X:Cx}
theorem ca9 (hu:X.A.in1.in1.units < cLine):U7 X (.builtin "sorted") (fun xs H Q=>∃(p:Addr) (bs:List Addr) (rs:List (List Int)),xs=[.ref p]/\g9 X.K H p (bs.map V.ref)/\x5 H bs rs/\
   ∀(cs:List Addr) (ts:List (List Int)) l,cs.Perm bs->ts.Perm rs->x5 H cs ts->ts.Pairwise (fun r r'=>HT.bb3 r' r=false)->H l=none->Q (.ref l) (c9 H l (.lst (cs.map V.ref)))):=by
 intro pins s σ H xs us Q I r h;obtain ⟨p,bs,rs,rfl,hp,hr,q⟩:=h;obtain ⟨u,rfl,rx⟩:=aj3 r;cases rx;obtain ⟨its,rv,pl,hl⟩:=I.list hp;have ev:=ao0 rv;subst ev
 have rows:∀b∈bs,∃r:List Int,H b=some (.lst (r.map V.int)):=fun b hb=>by
   obtain ⟨j,hj⟩:=eg6.mp hb
   have hjl:j < rs.length:=by rw[<-hr.1];exact (ed3.mp hj).1
   exact ⟨_,hr.2 j b _ hj (ed4 hjl)⟩
 have er:=cm2 hr
 have each:∀h':Heap,(∀b o,b < s.heap.objs.size->s.heap.get? b=some o->h'.get? b=some o)->∀b∈bs,an8 h' (.ref b) (ac9 H b):=by
   intro h' old b hb;obtain ⟨r,e⟩:=rows b hb;obtain ⟨_,its,n,v,g⟩:=(show y9 X.prog X.w H s.heap b (.lst (r.map V.int)) from I.hok b _ e);rw[bf2 e];exact ⟨b,its.toArray,n,rfl,old b _ (Heap.lt_size g) g,by simpa using as2 v⟩
 have hll:(bs.map V.ref).length=bs.length:=ed2 ..
 refine dj9 (rk:=fun v=>az2 HT.bb3 (bs.map (ac9 H)) (ac9 H (adr v))) pl.isList (by rw[ed2];omega) (fun h' old=>dc4 hu (each h' old)) fun out o1 o2=> ?_
 have eo:out=(out.map adr).map Value.ref:=by
   rw[ej5];refine (er8 out).symm.trans (ej9 fun v hv=> ?_);obtain ⟨b,_,rfl⟩:=ee5.mp (o1.mem_iff.mp hv);rfl
 have pb:(out.map adr).Perm bs:=by
   have:=o1.map adr;rw[ej5] at this;have e2:bs.map (adr∘Value.ref)=bs:=(ej9 fun b _=>rfl).trans (er8 bs);rw[e2] at this;exact this
 have st:((out.map adr).map (ac9 H)).Pairwise (fun r r'=>HT.bb3 r' r=false):=by
   rw[ej5];refine em6.mpr (List.Pairwise.imp_of_mem (fun {x y} hx hy h=> ?_) o2);refine dk1 bo4 ca8 (l:=bs.map (ac9 H)) ?_ h;exact ee5.mpr ⟨adr y,pb.mem_iff.mp (ee5.mpr ⟨y,hy,rfl⟩),rfl⟩
 have rw':x5 H (out.map adr) ((out.map adr).map (ac9 H)):=⟨(ed2 ..).symm,fun j a r e1 e2=>by
   rw[ed9,e1] at e2;have:=Option.some.inj e2;obtain ⟨r',e⟩:=rows a (pb.mem_iff.mp (ee1 e1))
   rw[<-this,bf2 e];exact e⟩
 have pr:((out.map adr).map (ac9 H)).Perm rs:=by rw[<-er];exact pb.map _
 obtain ⟨e,he⟩:=sortedAll_at s.heap (bs.map Value.ref) out.toArray;refine ⟨.ref (s.heap.objs.size+1),_,I.laid (t':=s.toks) (fun _ _ q=>sortedAll_old q) (eq7 _) (show y9 X.prog X.w _ _ _ (.lst ((out.map adr).map V.ref)) from ⟨by rw[ed2,pb.length_eq];omega,out,e,?_,he⟩),rfl,q _ _ _ pb pr rw' st (I.hok.fresh (eq7 _))⟩;have:=bs5 (out.map adr);rw[<-eo] at this;exact this
variable {e:Expr} {t:TA} {p pos kpos:Pos}
def dc5 (K:PySem.W.Frag)(t:TA):TE:=tCB (fun xs H Q=>∃(p:Addr) (bs:List Addr) (rs:List (List Int)),xs=[.ref p]/\g9 K H p (bs.map V.ref)/\x5 H bs rs/\
 ∀(cs:List Addr) (ts:List (List Int)) l,cs.Perm bs->ts.Perm rs->x5 H cs ts->ts.Pairwise (fun r r'=>HT.bb3 r' r=false)->H l=none->Q (.ref l) (c9 H l (.lst (cs.map V.ref)))) t
theorem cf9 (hu:X.A.units+1+1 < cLine)(hm:X.mg "sorted"=none)(ha:PA X [e] t)(hg:Gl X "sorted":=by rfl)(he:starEach [e] X.env=(false,eval e X.env)::starEach [] X.env:=by rfl):
 PE X (.Call (.Name "sorted" p) [e] [] pos) (dc5 X.K t):=U9 (ca9 (by simpa [Around.in1] using hu)) hg hm ay8 ha (by decide) (by decide) he rfl
end
end L2
namespace L2
open PySem PySem.Spec PyProof PyProof.Rows
def dw7 (i j:Int):Prop:=i.natAbs < 2^20000/\j.natAbs < 2^20000
theorem dk2 {i j:Int}{n:Nat}(hn:n<=2^20)(h1:i.natAbs < 2^n)(h2:j.natAbs < 2^n):IntMulOk i j:=by
 refine IntMulOk.of_bits ?_ ?_
 · exact ee6 (PySem.intBits_le_iff.mpr h1) hn
 · exact ee6 (PySem.intBits_le_iff.mpr h2) hn
theorem Q2 {X:Cx}:R7 X (binaryOp .Mult) (rI dw7 fun i j=> .int (i*j)):=opI fun _ _ _ _ _ _ _ hc q=>mul_int q (dk2 (by decide) hc.1 hc.2)
end L2
namespace L2
open PySem PySem.Spec PyProof PyProof.Rows
open PySem.Builtin PySem.Builtin.Str PySem.Builtin.BaseException PySem.Builtin.Exceptions
section
variable {X:Cx}
structure ea8 (K:PySem.W.Frag)(C:Addr):Prop where
 str:PySem.W.findIn K (.ref C) "__str__"=some (some (.builtin "BaseException.__str__"))
 bex:PySem.W.mroIn K C (.type "BaseException")=some true
end
end L2
namespace L2
open PySem PySem.Spec PyProof.Rows
section
variable {P:Program} {w:World} {K:PySem.W.Frag} {mg:Str->Option Value} {base h:Heap} {x:Str} {st:Stmt} {f:Addr} {fd:FuncData} {ps:List Str} {k:Nat} {sp:Sp}
def Fu (K:PySem.W.Frag)(x:Str)(st:Stmt)(f:Addr):Prop:=∃fd,PySem.W.nsIn K mainGlobals x=some (some (.ref f))/\B6 K x x st f fd
theorem dw8 {oc:Value}{od an:Option Addr}{osl:Array (Option Value)}{kV doc pm cdv ct:Value}(a:PySem.W.nsIn K mainGlobals x=some (some (.ref f)))(l:K.lookup f=some ⟨oc,od,.func (PySem.W.fnOf x x (aj9 st) (aa9 st) (i8 st) .none kV doc pm an cdv ct),osl⟩)
 (c:PySem.W.codeIn K cdv x=true) (k:PySem.W.keepIn K (.ref f)=true):Fu K x st f:=⟨_,a,dq2 l c k⟩
theorem t7 (X:K.In h)(G:h.Ns mainGlobals mg)(a:PySem.W.nsIn K mainGlobals x=some (some (.ref f)))(F:B6 K x x st f fd)(b:aj4 K fd ps [])(ok:m9 P w K mg base E2 k f fd ps sp):o4 P w K mg base x k ps sp:=⟨f,fd,PySem.W.mg_of X G a,F.kp,b,ok⟩
theorem ab5 (X:K.In h)(G:h.Ns mainGlobals mg)(a:PySem.W.nsIn K mainGlobals x=some (some (.ref f)))(F:B6 K x x st f fd)(b:aj4 K fd ps [])(ok:m9 P w K mg base (CX1 P w) k f fd ps sp):O2 P w K mg base x k ps sp:=⟨f,fd,PySem.W.mg_of X G a,F.kp,b,ok⟩
def Fre (K:PySem.W.Frag):List Str->Prop
 |[]=>True
 |x::l=>PySem.W.nsIn K mainGlobals x=some none/\Fre K l
structure ClF (K:PySem.W.Frag)(T:Addr)(x:Str)(q:Addr):Prop where
 n:PySem.W.nsIn K mainGlobals x=some (some (.ref q))
 e:PySem.W.excIn K q veB "ValueError.__new__"=true
 g:PySem.W.findIn K (.ref q) "__getattribute__"=some (some (.builtin "BaseException.__getattribute__"))
 h:PySem.W.findIn K (.ref q) "__getattr__"=some none
 c:PySem.W.findIn K (.ref q) "__class__"=some (some (.builtin "object.__class__"))
 b:PySem.W.mroIn K q (.type "BaseException")=some true
 o:PySem.W.mroIn K q (.type "object")=some true
 i:PySem.W.isClsIn K q=true
 t:PySem.W.typeIn K (.ref q)=some (.type "type")
 u:PySem.W.mroIn K q (.ref T)=some true
 v:PySem.W.mroIn K q (.type "ValueError")=some true
 s:PySem.W.findIn K (.ref q) "__str__"=some (some (.builtin "BaseException.__str__"))
def bo5 (K:PySem.W.Frag)(T:Addr):List (Str×Addr)->Prop
 |[]=>True
 |(x,q)::l=>ClF K T x q/\bo5 K T l
def PrI (K:PySem.W.Frag)(i:Nat)(a:Addr):Nat->List (Str×Addr)->Prop
 |_,[]=>True
 |j,(_,b)::l=>PySem.W.mroIn K a (.ref b)=some (Nat.beq i j)/\PrI K i a (j+1) l
def bo6 (K:PySem.W.Frag)(all:List (Str×Addr)):Nat->List (Str×Addr)->Prop
 |_,[]=>True
 |i,(_,a)::l=>PrI K i a 0 all/\bo6 K all (i+1) l
theorem bo5.get {T:Addr}:∀{cs:List (Str×Addr)},bo5 K T cs->∀p∈cs,ClF K T p.1 p.2
 |(x,q)::l,h,p,hp=>by
  rcases ee8.mp hp with rfl|hp
  · exact h.1
  · exact bo5.get h.2 p hp
theorem PrI.get {i:Nat}{a:Addr}:∀{l:List (Str×Addr)} {j0:Nat},PrI K i a j0 l->∀j q,l[j]? =some q->PySem.W.mroIn K a (.ref q.2)=some (Nat.beq i (j0+j))
 |(x,b)::l,j0,h,0,q,e=>by
  cases e;exact h.1
 |(x,b)::l,j0,h,j+1,q,e=>by
  have:=PrI.get h.2 j q e;rw[this,show j0+1+j=j0+(j+1) by omega]
theorem bo6.get {all:List (Str×Addr)}:∀{l:List (Str×Addr)} {i0:Nat},bo6 K all i0 l->∀i p,l[i]? =some p->PrI K (i0+i) p.2 0 all
 |(x,b)::l,i0,h,0,p,e=>by
  cases e;exact h.1
 |(x,b)::l,i0,h,i+1,p,e=>by
  have:=bo6.get h.2 i p e;rw[show i0+1+i=i0+(i+1) by omega] at this;exact this
theorem cw0 {T:Addr}{cs:List (Str×Addr)}(X:K.In h)(G:h.Ns mainGlobals mg)(uT:PySem.W.nsIn K mainGlobals "TurnError"=some (some (.ref T)))(uTb:PySem.W.mroIn K T (.type "BaseException")=some true)(uTc:PySem.W.isClsIn K T=true)(uTt:PySem.W.typeIn K (.ref T)=some (.type "type"))
   (uG:PySem.W.specialIn K (.builtin "object.__class__") "__get__"=some (some (.builtin "getset_descriptor.__get__"))) (uK:PySem.W.takesIn K (.builtin "object.__class__")=some true) (uC:bo5 K T cs) (uP:bo6 K cs 0 cs) (nd:(cs.map (·.1)).Nodup):aq3 K mg T cs:=by
 refine ⟨PySem.W.mg_of X G uT,fun p hp=> ?_,fun p hp=> ?_,fun p hp=> ?_,fun p hp=> ?_,fun p hp q hq=> ?_⟩
 · exact ⟨PySem.W.mg_of X G (uC.get p hp).n,(uC.get p hp).e⟩
 · have c:=uC.get p hp;exact dj2 c.g c.h c.c uG uK c.b c.o c.i
 · exact dj1 uTb uTc uTt (uC.get p hp).u
 · exact dr2 (uC.get p hp).v
 · have c:=uC.get q hq;obtain ⟨i,hi⟩:=List.getElem?_of_mem hp;obtain ⟨j,hj⟩:=List.getElem?_of_mem hq
   have e:∀{k:Nat} {r:Str×Addr},cs[k]? =some r->PySem.W.mroIn K p.2 (.ref r.2)=some (Nat.beq i k):=fun {k r} hr=>by
     have:=(uP.get i p hi).get k r hr;rw[eo0,eo0] at this;exact this
   have eb:decide (p.1=q.1)=Nat.beq i j:=by
     by_cases z:i=j
     · subst z;rw[hi] at hj;cases hj;rw[decide_eq_true rfl,Nat.beq_refl]
     · have:Nat.beq i j=false:=by
         cases y:Nat.beq i j with
         |false=>rfl
         |true=>exact absurd (Nat.eq_of_beq_eq_true y) z
       rw[this]
       refine decide_eq_false fun y=>z ?_
       have i1:i < (cs.map (·.1)).length:=by rw[ed2];exact (ed3.mp hi).1
       refine (List.getElem?_inj i1 nd).mp ?_;rw[ed9,ed9,hi,hj];exact congrArg some y
   rw[eb]
   refine dj0 c.i c.t (e hj) fun z=> ?_
   have a:=e hi;rw[z] at a;have b:=e hj;rw[z,a,Nat.beq_refl] at b;exact (Option.some.inj b).symm
end
end L2
namespace My
open PySem L2 Mth
def top (i:Nat):Stmt:=PySem.Challenge.pw_turnroots_k21_refused_in_order.main.body.getD i (.Pass ⟨0,0,0,0⟩)
abbrev au8:Stmt:=top 14
abbrev N0:Stmt:=top 15
abbrev Z9:Stmt:=top 16
abbrev ad1:Stmt:=top 17
abbrev ao9:Stmt:=top 18
abbrev al6:Stmt:=top 19
abbrev X8:Stmt:=top 20
abbrev aa2:Stmt:=top 21
abbrev au9:Stmt:=top 22
abbrev ad2:Stmt:=top 23
abbrev ah7:Stmt:=top 26
abbrev U0:Stmt:=top 27
abbrev aj6:Stmt:=top 28
abbrev al7:Stmt:=top 30
abbrev ad3:Stmt:=top 32
abbrev aa3:Stmt:=top 33
abbrev ai4:Stmt:=top 34
abbrev V4:Stmt:=top 35
abbrev ap0:Stmt:=top 36
abbrev Y6:Stmt:=top 37
abbrev ag9:Stmt:=top 38
abbrev av0:Stmt:=top 39
abbrev aa4:Stmt:=top 40
abbrev ai5:Stmt:=top 42
abbrev av2:Stmt:=top 43
abbrev av3:Stmt:=top 44
abbrev av4:Stmt:=top 45
abbrev av5:Stmt:=top 46
abbrev al8:Stmt:=top 47
abbrev ap1:Stmt:=top 48
abbrev al9:Stmt:=top 49
abbrev am0:Stmt:=top 50
abbrev ap2:Stmt:=top 51
abbrev af4:Stmt:=top 52
abbrev av6:Stmt:=top 53
abbrev am1:Stmt:=top 54
abbrev ad4:Stmt:=top 55
abbrev az3:Stmt:=top 56
abbrev az4:Stmt:=top 57
abbrev am2:Stmt:=top 58
abbrev Z3:Stmt:=top 59
abbrev W5:Stmt:=top 60
abbrev bc1:Stmt:=top 61
end My
namespace My
open PySem L2 Mth
structure Bl (mg:Str->Option Value):Prop where
 len:mg "len"=none
 isi:mg "isinstance"=none
 int:mg "int"=none
 bool:mg "bool"=none
 list:mg "list"=none
 range:mg "range"=none
 sum:mg "sum"=none
 min:mg "min"=none
 max:mg "max"=none
 enum:mg "enumerate"=none
 zip:mg "zip"=none
 sorted:mg "sorted"=none
 tuple:mg "tuple"=none
 str:mg "str"=none
 repr:mg "repr"=none
 all:mg "all"=none
 any:mg "any"=none
 set:mg "set"=none
 dict:mg "dict"=none
 ve:mg "ValueError"=none
section
variable {P:Program} {w:World} {K:PySem.W.Frag} {mg:Str->Option Value} {base:Heap}
def af5 (K:PySem.W.Frag):Sp:=fun vs H Q _=>∃x t b1 b2,vs=[x]/\U8 K H x t/\PySem.W.kitOne K t (.type "int")=some b1/\PySem.W.kitOne K t (.type "bool")=some b2/\Q (.bl (b1&& !b2)) H
theorem dk3:n5 ["thing"] ["thing"] (i8 au8):=by rfl'
theorem dc6 {f:Addr}{fd:FuncData}(F:B6 K "is_whole" "is_whole" au8 f fd)(B:Bl mg):m9 P w K mg base E2 1 f fd ["thing"] (af5 K):=by
 refine F.ok dk3 (fun vs H Q E h=> ?_) (fun cdv A outer s H vs Q E hr h=> ?_)
 · obtain ⟨x,t,b1,b2,rfl,_⟩:=h;rfl
 · obtain ⟨x,t,b1,b2,rfl,ty,e1,e2,q⟩:=h;refine ⟨_,g6 (j9 (co7 (bi7 B.isi (e7 (pv 0) (e7 (da9 B.int) j8))) (co6 (dn9 (bi7 B.isi (e7 (pv 0) (e7 (cr6 B.bool) j8))))))),?_⟩
   try dsimp only[t6,Cx.nox,Cx.wish]
   refine ⟨x,rfl,x,"int",t,b1,rfl,ty,e1,b1,rfl,?_⟩
   cases b1 with
   |true=>
    refine J8 ⟨x,rfl,x,"bool",t,b2,rfl,ty,e2,b2,rfl,?_⟩;exact q
   |false=>exact y7 q
def av7:Sp:=fun vs H Q _=>∃(a:Addr) (ns:List Int),vs=[.ref a]/\H a=some (.lst (ns.map V.int))/\∀(b:Bool) (H':Hp),c6 H H'->(b=true↔ns.length<=40/\E6 ns)->Q (.bl b) H'
theorem bf8:n5 ["thing","seen","place"] ["thing"] (i8 ah7):=by rfl'
theorem cw1 {f:Addr}{fd:FuncData}(F:B6 K "is_turn" "is_turn" ah7 f fd)(B:Bl mg)(mt:∃t,mg "MOST_THINGS"=some (.int 40 t))(cW:o4 P w K mg base "is_whole" 1 ["thing"] (af5 K)):m9 P w K mg base E2 2 f fd ["thing"] av7:=by
 refine F.ok bf8 (fun vs H Q E h=> ?_) (fun cdv A outer s H vs Q E hr h=> ?_)
 · obtain ⟨a,ns,rfl,_⟩:=h;rfl
 · obtain ⟨a,ns,rfl,ha,k⟩:=h;obtain ⟨tk,mt⟩:=mt;have hu:=Q8 hr
   refine ⟨_,c8 (y8 (O0 (V8 (V7 (bi7 B.isi (e7 (pv 0) (e7 (br7 B.list) j8))))) (S1 (j6 an5 (o8 B.len (e7 (pv 0) j8)) (N6 (v:= .int 40) (by rfl) mt ⟨tk,rfl⟩) (j7 _)))).pt (g6 (j9 K2)) o7)
     (c8 (i4 (i:=1) bf8.nd rfl (Or.inl rfl) V0)
     (c8 (q0 PassesOwn.never rfl (B8 (pv 0)) (i9 (i:=2) bf8.nd rfl (Or.inl rfl))
       (c8 (y8 (O0 (V8 (V7 (i7 cW hr (e7 (pv 2) j8)))) (O0 (j6 as1 (pv 2) h8 (j7 _)) (O0 (j6 bh8 (pv 2) (o8 B.len (e7 (pv 0) j8)) (j7 _)) (S1 (ax9 (cq6 hu (pv 2) (pv 1))))))).pt (g6 (j9 K2)) o7)
       (g6 (aj8 hu (pv 1) (pv 2) K2 rfl))))
     (g6 (j9 K2)))),?_⟩
   try dsimp only[t6,Cx.nox,Cx.wish]
   refine ⟨_,rfl,_,"list",_,true,rfl,.lst ha,X3 K "list",true,rfl,?_⟩;refine y7 ⟨_,rfl,a,_,rfl,.inl (g9.of ha),_,_,rfl,rfl,_,rfl,?_⟩;rw[ed2];refine ac4 (fun h40=> ?_) (fun h40=> ?_)
   · have h40:(40:Int) < (ns.length:Int):=of_decide_eq_true h40;exact k false H (c6.refl H) ⟨fun z=>(by cases z),fun z=>(by have:=z.1;omega)⟩
   · have h40:¬(40:Int) < (ns.length:Int):=fun z=>h40 (decide_eq_true z)
     intro d hd;have nad:a≠d:=g7 ha hd
     have ha1:(c9 H d (.dK [])) a=some (.lst (ns.map V.int)):=by rw[g8 nad];exact ha
     refine ⟨_,rfl,a,rfl,⟨_,g9.of ha1⟩,G4 (K:=K) (a:=a) (xs:=ns.map V.int) (fun i σ H2=>∃v:Option V,σ=[some (.ref a),some (.ref d),v]/\c6 H H2/\H2 d=some (.dK (K6 (ns.take i)))/\(ns.take i).Nodup/\∀x∈ns.take i,0<=x/\x < ns.length)
       ⟨none,rfl,c6.upd_new hd,c7,ej6,fun x hx=>by simp at hx⟩ (fun i σ H2 _ zz=>by obtain ⟨_,_,s2,_⟩:=zz;exact g9.of (s2 a _ ha)) ?_ ?_⟩
     · rintro i y σ H2 hi ⟨v,rfl,s2,h2,nd,bd⟩;obtain ⟨z,hz,rfl⟩:=K7 hi;have ha2:=s2 a _ ha;have hil:i < ns.length:=(ed3.mp hz).1;refine ⟨_,rfl,.int z,_,true,false,rfl,.int z,X3 K "int",X4 K,_,rfl,?_⟩;refine y7 ⟨_,rfl,_,_,rfl,rfl,_,rfl,?_⟩;refine ac4 (fun hz0=> ?_) (fun hz0=> ?_)
       · have hz0:z < 0:=of_decide_eq_true hz0;exact J8 (k false H2 s2 ⟨fun q=>(by cases q),fun q=>(by have:=q.2.lo z (ee1 hz);omega)⟩)
       have hz0:¬z < 0:=fun q=>hz0 (decide_eq_true q)
       refine ⟨_,rfl,_,rfl,a,_,rfl,.inl (g9.of ha2),_,_,rfl,rfl,_,rfl,?_⟩;rw[ed2];refine ac4 (fun hz1=> ?_) (fun hz1=> ?_)
       · have hz1:(ns.length:Int)<=z:=of_decide_eq_true hz1;exact J8 (k false H2 s2 ⟨fun q=>(by cases q),fun q=>(by have:=q.2.hi z (ee1 hz);omega)⟩)
       have hz1:¬(ns.length:Int)<=z:=fun q=>hz1 (decide_eq_true q)
       refine ⟨_,rfl,_,rfl,d,_,rfl,X1.k (k:=Sum.inl z) h2,_,rfl,?_⟩
       by_cases hm:z∈ns.take i
       · rw[al0 hm];refine J8 (k false H2 s2 ⟨fun q=>(by cases q),fun q=> ?_⟩);exfalso;obtain ⟨j,hj⟩:=eg6.mp hm
         have hjl:j < i:=by
           have:=(ed3.mp hj).1;rw[ee9] at this;omega
         rw[ei6 hjl] at hj;have e1:=(ed3.mp hj).2;have e2:=(ed3.mp hz).2;exact eg8.mp (ef9.mp q.2.nd) j i (by omega) hil hjl (by rw[e1,e2])
       · rw[ae6 hm];refine y7 ⟨_,rfl,_,rfl,d,_,rfl,ao4.k (k:=Sum.inl z) h2 (m8 (by unfold K6;rw[ed2,ee9];omega)),?_⟩
         have hds:∀b o,H b=some o->b≠d:=fun b o e=>g7 e hd
         refine ⟨some (.int z),rfl,fun b o e=>by rw[g8 (hds b o e)];exact s2 b o e,?_,?_,?_⟩
         · rw[an7 hm,c7,m7 hz]
         · rw[m7 hz];exact ak0 nd hm
         · intro x hx;rw[m7 hz] at hx
           rcases ee2.mp hx with q|q
           · exact bd x q
           · have:x=z:=by simpa using q
             omega
     · rintro σ H2 ⟨v,rfl,s2,h2,nd,bd⟩;rw[ed2,eg4] at nd bd;refine k true H2 s2 ⟨fun _=>⟨by omega,⟨nd,fun x hx=>(bd x hx).1,fun x hx=>(bd x hx).2⟩⟩,fun _=>rfl⟩
end
end My
namespace My
open PySem L2 Mth
section
variable {P:Program} {w:World} {K:PySem.W.Frag} {mg:Str->Option Value} {base:Heap}
def x9 (H:Hp)(a:Addr)(p:List Int):Prop:=H a=some (.lst (p.map V.int))/\E6 p/\p.length<=40
end
end My
namespace My
open PySem L2 Mth
section
variable {P:Program} {w:World} {K:PySem.W.Frag} {mg:Str->Option Value} {base:Heap}
def aq9:Sp:=fun vs H Q _=>∃(a:Addr) (ns:List Int),vs=[.ref a]/\x9 H a ns/\∀(H':Hp),c6 H H'->Q .non H'
theorem cw2:n5 ["thing"] ["thing"] (i8 U0):=by rfl'
theorem cj4 {f:Addr}{fd:FuncData}(F:B6 K "must_be_turn" "must_be_turn" U0 f fd)(cT:o4 P w K mg base "is_turn" 2 ["thing"] av7):m9 P w K mg base E2 3 f fd ["thing"] aq9:=by
 refine F.ok cw2 (fun vs H Q E h=> ?_) (fun cdv A outer s H vs Q E hr h=> ?_)
 · obtain ⟨a,ns,rfl,_⟩:=h;rfl
 · obtain ⟨a,ns,rfl,⟨ha,ht,hl⟩,k⟩:=h;refine ⟨_,g6 (y8 (V8 (V7 (i7 cT hr (e7 (pv 0) j8)))) (g6 ar9) o7),?_⟩
   try dsimp only[t6,Cx.nox,Cx.wish]
   refine ⟨_,rfl,a,ns,rfl,ha,fun b H' s' hb=>⟨b,rfl,?_⟩⟩;have:b=true:=hb.mpr ⟨hl,ht⟩;subst this;exact y7 (k H' s')
end
end My
namespace My
open PySem L2 Mth
def bw0 (H:Hp)(l:Addr):Nat:=match H l with
 |some (.lst xs)=>xs.length
 |_=>0
theorem av8 {H:Hp}{l:Addr}{xs:List V}(h:H l=some (.lst xs)):bw0 H l=xs.length:=by unfold bw0;rw[h]
end My
namespace My
open PySem L2 Mth
section
variable {P:Program} {w:World} {K:PySem.W.Frag} {mg:Str->Option Value} {base:Heap}
def ab6:Sp:=fun vs H Q _=>∃(a:Addr) (p:List Int),vs=[.ref a]/\x9 H a p/\
 ∀(l:Addr) (as:List Addr) (rs:List (List Int)) (H':Hp),H l=none->c6 H H'->H' l=some (.lst (as.map V.ref))->x5 H' as rs->J5 p p.length rs->(∀b∈as,H b=none)->as.Nodup->l∉as->Q (.ref l) H'
theorem ab7 {H:Hp}{as:List Addr}{rs:List (List Int)}{e:Addr}{r:List Int}(h:x5 H as rs)(he:H e=some (.lst (r.map V.int))):x5 H (as++[e]) (rs++[r]):=by
 refine ⟨by rw[ed6,ed6,h.1];rfl,fun j b q h1 h2=> ?_⟩
 by_cases hj:j < as.length
 · rw[ef8 hj] at h1;rw[ef8 (by rw[<-h.1];exact hj)] at h2;exact h.2 j b q h1 h2
 · rw[ef6 (by omega)] at h1;rw[ef6 (by rw[<-h.1];omega),<-h.1] at h2
   have hj0:j - as.length=0:=by
     have:=(ed3.mp h1).1
     simpa using this
   rw[hj0] at h1 h2;cases h1;cases h2;exact he
theorem J2 {H H':Hp}{as:List Addr}{rs:List (List Int)}(h:x5 H as rs)(k:∀b∈as,∀o,H b=some o->H' b=some o):x5 H' as rs:=
 ⟨h.1,fun j a r h1 h2=>k a (ee1 h1) _ (h.2 j a r h1 h2)⟩
theorem af6 {H:Hp}{as:List Addr}{rs:List (List Int)}(h:x5 H as rs){b:Addr}(hb:b∈as):∃r:List Int,H b=some (.lst (r.map V.int)):=by
 obtain ⟨j,hj⟩:=eg6.mp hb;have hjl:=(ed3.mp hj).1;exact ⟨_,h.2 j b (rs[j]'(by rw[<-h.1];exact hjl)) hj (ed4 _)⟩
theorem am3 {p:List Int}{i:Nat}{rs:List (List Int)}(tp:E6 p)(h:J5 p i rs):rs.flatten.length<=p.length:=by
 refine ay7 h.nd fun x hx=> ?_
 obtain ⟨r,hr,hxr⟩:=ek1.mp hx;obtain ⟨y,L,a,b,rfl,_⟩:=h.ring r hr;exact ae7 tp a x hxr
theorem af7 {p:List Int}{i:Nat}{rs:List (List Int)}(h:J5 p i rs):rs.length<=rs.flatten.length:=by
 have:∀l:List (List Int),(∀r∈l,1<=r.length)->l.length<=l.flatten.length:=by
   intro l
   induction l with
   |nil=>intro _;exact ed5 _
   |cons a r ih=>
    intro h;have h1:=h a ed7
    have h2:=ih fun x hx=>h x (ee0 _ hx)
    rw[eh4,ed6,eg3];omega
 refine this rs fun r hr=> ?_
 obtain ⟨y,L,a,b,rfl,_⟩:=h.ring r hr;rw[x6];exact b.pos
end
end My
namespace My
open PySem L2 Mth
section
variable {P:Program} {w:World} {K:PySem.W.Frag} {mg:Str->Option Value} {base:Heap}
def cb0:Sp:=fun vs H Q _=>∃(a:Addr) (p:List Int) (x:Int),vs=[.ref a,.int x]/\x9 H a p/\In p x/\
 ∀(l:Addr) (L:Nat) (H':Hp),H l=none->c6 H H'->S8 p x L->L<=40->H' l=some (.lst ((o6 p x L).map V.int))->Q (.ref l) H'
theorem bk3:n5 ["p","first","ring","thing"] ["p","first"] (i8 ao9):=by rfl'
theorem dk4 {f:Addr}{fd:FuncData}(F:B6 K "walk_ring" "walk_ring" ao9 f fd):m9 P w K mg base E2 1 f fd ["p","first"] cb0:=by
 refine F.ok bk3 (fun vs H Q E h=> ?_) (fun cdv A outer s H vs Q E hr h=> ?_)
 · obtain ⟨a,p,x,rfl,_⟩:=h;rfl
 · obtain ⟨a,p,x,rfl,⟨ha,tp,lp⟩,hx,q⟩:=h
   refine ⟨_,c8 (i4 (i:=2) bk3.nd rfl (Or.inl rfl) (o5 (e7 (pv 1) j8)))
     (c8 (i4 (i:=3) bk3.nd rfl (Or.inl rfl) (N7 G1 (pv 0) (pv 1) (fun _ _=>rfl)))
     (c8 (ae2 PassesOwn.never (j6 R9 (pv 3) (pv 1) (j7 _)) (c8 (w9 (B0 (pv 2) (e7 (pv 3) j8))) (g6 (i4 (i:=3) bk3.nd rfl (Or.inl rfl) (N7 G1 (pv 0) (pv 3) (fun _ _=>rfl))))))
     (g6 (j9 (pv 2))))),?_⟩
   try dsimp only[t6,Cx.nox,Cx.wish]
   refine ⟨_,rfl,(by show 1<=sizeLine;decide),fun l hl=> ?_⟩;have nal:a≠l:=g7 ha hl
   have hal:(c9 H l (.lst [.int x])) a=some (.lst (p.map V.int)):=by rw[g8 nal];exact ha
   refine ⟨_,rfl,_,rfl,a,_,_,_,rfl,rfl,g9.of hal,Y3 hx.1 hx.2,?_⟩
   refine be6 (fun σ H2=>∃m:Nat,σ=[some (.ref a),some (.int x),some (.ref l),some (.int (it p m x))]/\1<=m/\H2 l=some (.lst ((o6 p x m).map V.int))/\c6 H H2/\∀i,0 < i->i < m->it p i x≠x) (fun _ H2=>p.length+1 - bw0 H2 l)
     ⟨1,rfl,ed5 _,c7,c6.upd_new hl,fun i i0 i1=>by omega⟩ ?_ ?_
   · rintro σ H2 ⟨m,rfl,m1,h2l,s2,hne⟩;have ha2:=s2 a _ ha;refine ⟨_,rfl,_,rfl,rfl,_,rfl,?_⟩
     by_cases hb:it p m x=x
     · refine ac5 (congrArg V.int hb) ?_;exact ⟨_,rfl,q l m H2 hl s2 ⟨by omega,hb,hne⟩ (by have:=O1 tp hx hne;omega) h2l⟩
     · have hb':¬V.int (it p m x)=V.int x:=fun z=>hb (V.int.inj z)
       rw[decide_eq_false hb'];refine J8 ?_
       have hne':∀i,0 < i->i < m+1->it p i x≠x:=fun i i0 i1=>by
         by_cases e:i=m
         · rw[e];exact hb
         · exact hne i i0 (by omega)
       have hbd:=O1 tp hx hne';refine ⟨_,rfl,.inl ⟨rfl,_,g9.of h2l⟩,_,rfl,l,_,_,rfl,rfl,h2l,m8 (by rw[ed2,x6];omega),?_⟩;have hi:=ac7 tp hx m;refine ⟨_,rfl,_,rfl,a,_,_,_,rfl,rfl,g9.of (by rw[g8 nal];exact ha2),Y3 hi.1 hi.2,?_⟩
       have h3l:(c9 H2 l (.lst ((o6 p x m).map V.int++[.int (it p m x)]))) l=some (.lst ((o6 p x (m+1)).map V.int)):=by
         rw[c7,at4,ed8];rfl
       refine ⟨⟨m+1,rfl,by omega,h3l,fun b o hb=>by rw[g8 (g7 hb hl)];exact s2 b o hb,hne'⟩,?_⟩;rw[av8 h3l,av8 h2l,ed2,ed2,x6,x6];omega
   · rintro σ H2 Q Q' hq ⟨v,hv,u,hu,e1,k1,e2,e3⟩;exact ⟨v,hv,u,hu,e1,k1,e2,hq _ _ e3⟩
theorem ak3:n5 ["p","rings","seen","first","ring","thing"] ["p"] (i8 al6):=by rfl'
theorem dc7 {f:Addr}{fd:FuncData}(F:B6 K "walk_rings" "walk_rings" al6 f fd)(B:Bl mg)(cR:o4 P w K mg base "walk_ring" 1 ["p","first"] cb0):m9 P w K mg base E2 2 f fd ["p"] ab6:=by
 refine F.ok ak3 (fun vs H Q E h=> ?_) (fun cdv A outer s H vs Q E hr h=> ?_)
 · obtain ⟨a,p,rfl,_⟩:=h;rfl
 · obtain ⟨a,p,rfl,⟨ha,tp,lp⟩,q⟩:=h;have hu:=Q8 hr
   refine ⟨_,c8 (i4 (i:=1) ak3.nd rfl (Or.inl rfl) (o5 j8)) (c8 (i4 (i:=2) ak3.nd rfl (Or.inl rfl) V0)
     (c8 (q0 PassesOwn.never rfl (Q6 (by rfl) B.range (e7 (o8 B.len (e7 (pv 0) j8)) j8)) (i9 (i:=3) ak3.nd rfl (Or.inl rfl))
       (g6 (y8 (ax9 (ay3 hu (pv 3) (pv 2))) (c8 (i4 (i:=4) ak3.nd rfl (Or.inl rfl) (i7 cR hr (e7 (pv 0) (e7 (pv 3) j8)))) (c8 (w9 (B0 (pv 1) (e7 (pv 4) j8)))
         (g6 (q0 PassesOwn.never rfl (B8 (pv 4)) (i9 (i:=5) ak3.nd rfl (Or.inl rfl)) (g6 (aj8 hu (pv 2) (pv 5) K2 rfl)))))) o7)))
     (g6 (j9 (pv 1))))),?_⟩
   try dsimp only[t6,Cx.nox,Cx.wish]
   refine ⟨ef5 _,fun l hl=> ?_⟩;intro d hd
   have hdl:d≠l:=fun z=>by rw[z,c7] at hd;cases hd
   have hd0:H d=none:=by rw[g8 hdl] at hd;exact hd
   have s0:c6 H (c9 (c9 H l (.lst [])) d (.dK [])):=(c6.upd_new hl).upd_r hd0
   have h0l:(c9 (c9 H l (.lst [])) d (.dK [])) l=some (.lst []):=by rw[g8 hdl.symm,c7]
   refine ⟨_,rfl,a,_,rfl,.inl (g9.of (s0 a _ ha)),(p.length:Int),?_,by omega,by omega,?_⟩
   · rw[ed2]
   rw[show ((p.length:Int)).toNat=p.length by omega]
   refine G7 (lo:=0) (n:=p.length) (fun i σ H2=>∃(as:List Addr) (rs:List (List Int)) (v3 v4 v5:Option V),σ=[some (.ref a),some (.ref l),some (.ref d),v3,v4,v5]/\H2 l=some (.lst (as.map V.ref))/\H2 d=some (.dK (K6 rs.flatten))/\x5 H2 as rs/\J5 p i rs/\c6 H H2/\(∀b∈as,H b=none)/\as.Nodup/\l∉as)
     ⟨[],[],none,none,none,rfl,h0l,c7,⟨rfl,fun j b r h=>by simp at h⟩,at5 p,s0,fun b hb=>by simp at hb,ej6,by simp⟩ ?_ ?_
   · rintro i σ H2 hi ⟨as,rs,v3,v4,v5,rfl,h2l,h2d,rows,up,s2,fa,nda,nla⟩;have hx:In p (i:Int):=⟨by omega,by omega⟩
     have e0:(0:Int)+(i:Int)=(i:Int):=by omega
     rw[e0];refine ⟨_,rfl,_,rfl,d,_,rfl,X1.k (k:=Sum.inl (i:Int)) h2d,_,rfl,?_⟩
     by_cases hm:(i:Int)∈rs.flatten
     · rw[al0 hm];refine y7 ?_;exact ⟨as,rs,_,_,_,rfl,h2l,h2d,rows,at6 up hm,s2,fa,nda,nla⟩
     · rw[ae6 hm];refine J8 ?_;refine ⟨_,rfl,_,rfl,a,p,_,rfl,⟨s2 a _ ha,tp,lp⟩,hx,fun e L H3 he s23 pr hL h3e=> ?_⟩;have h3l:=s23 l _ h2l;have h3d:=s23 d _ h2d;have nle:l≠e:=g7 h2l he;have nde:d≠e:=g7 h2d he;have fl:=am3 tp up;have cl:=af7 up;have lenas:=rows.1;refine ⟨_,rfl,.inl ⟨rfl,_,g9.of h3l⟩,_,rfl,l,_,_,rfl,rfl,h3l,m8 (by rw[ed2,lenas];omega),?_⟩
       have es:as.map V.ref++[V.ref e]=(as++[e]).map V.ref:=by rw[ed8];rfl
       rw[es];have h4l:(c9 H3 l (.lst ((as++[e]).map V.ref))) l=some (.lst ((as++[e]).map V.ref)):=c7
       have h4d:(c9 H3 l (.lst ((as++[e]).map V.ref))) d=some (.dK (K6 rs.flatten)):=by rw[g8 hdl];exact h3d
       have h4e:(c9 H3 l (.lst ((as++[e]).map V.ref))) e=some (.lst ((o6 p i L).map V.int)):=by rw[g8 nle.symm];exact h3e
       have k4:∀b o,H2 b=some o->b≠l->(c9 H3 l (.lst ((as++[e]).map V.ref))) b=some o:=fun b o hb hn=>by rw[g8 hn];exact s23 b o hb
       generalize (c9 H3 l (.lst ((as++[e]).map V.ref)))=H4 at h4l h4d h4e k4 ⊢;have fr:=ao5 up pr hm
       have ndr:=ag6 tp hx fun j j0 j1=>pr.least j j0 j1
       refine ⟨_,rfl,e,rfl,⟨_,g9.of h4e⟩,G4 (K:=K) (a:=e) (xs:=(o6 p i L).map V.int) (fun j σ H5=>∃v5':Option V,σ=[some (.ref a),some (.ref l),some (.ref d),some (.int (i:Int)),some (.ref e),v5']/\H5 d=some (.dK (K6 (rs.flatten++(o6 p i L).take j)))/\j5 d H4 H5)
         ⟨v5,rfl,by rw[eo8,eg0];exact h4d,j5.refl d H4⟩ (fun j σ H5 _ zz=>by obtain ⟨_,_,_,k⟩:=zz;exact g9.of (k e _ h4e nde.symm)) ?_ ?_⟩
       · rintro j y σ H5 hj ⟨v5',rfl,h5d,kb⟩;obtain ⟨z,hz,rfl⟩:=K7 hj;have hjl:j < (o6 p i L).length:=(ed3.mp hz).1;rw[x6] at hjl
         have hzn:z∉rs.flatten++(o6 p i L).take j:=by
           intro hm'
           rcases ee2.mp hm' with g|g
           · exact fr z (ee1 hz) g
           · obtain ⟨jj,hjj⟩:=eg6.mp g
             have hjk:jj < j:=by
               have:=(ed3.mp hjj).1;rw[ee9] at this;omega
             rw[ei6 hjk] at hjj;have e1:=(ed3.mp hjj).2;have e2:=(ed3.mp hz).2;exact eg8.mp (ef9.mp ndr) jj j (by rw[x6];omega) (by rw[x6];omega) hjk (by rw[e1,e2])
         refine ⟨_,rfl,_,rfl,d,_,rfl,ao4.k (k:=Sum.inl z) h5d (m8 (by unfold K6;rw[ed2,ed6,ee9,x6];omega)),?_⟩;refine ⟨_,rfl,?_,kb.upd_a⟩;rw[an7 hzn,c7,m7 hz,ef2]
       · rintro σ H5 ⟨v5',rfl,h5d,kb⟩;rw[ed2,eg4] at h5d
         have nad:∀b∈as,b≠d/\b≠l:=fun b hb=>by
           obtain ⟨r,hr'⟩:=af6 rows hb;exact ⟨ck6 hr' h2d (by intro z;cases z),fun z=>nla (z▸hb)⟩
         refine ⟨as++[e],rs++[o6 p i L],_,_,_,rfl,kb l _ h4l hdl.symm,?_,?_,at8 tp up hx pr hm,?_,?_,?_,?_⟩
         · rw[h5d,ek5,el4]
         · exact ab7 (J2 rows fun b hb o ho=>kb b o (k4 b o ho (nad b hb).2) (nad b hb).1) (kb e _ h4e nde.symm)
         · exact fun b o hb=>kb b o (k4 b o (s2 b o hb) (g7 hb hl)) (g7 hb hd0)
         · intro b hb
           rcases ee2.mp hb with g|g
           · exact fa b g
           · have:b=e:=by simpa using g
             rw[this];exact s2.free he
         · refine ak0 nda fun g=> ?_
           obtain ⟨r,hr'⟩:=af6 rows g;rw[he] at hr';cases hr'
         · intro g
           rcases ee2.mp g with g|g
           · exact nla g
           · exact nle (by simpa using g)
   · rintro σ H2 ⟨as,rs,v3,v4,v5,rfl,h2l,h2d,rows,up,s2,fa,nda,nla⟩;exact ⟨_,rfl,q l as rs H2 hl s2 h2l rows up fa nda nla⟩
end
end My
namespace My
open PySem L2 Mth
section
variable {P:Program} {w:World} {K:PySem.W.Frag} {mg:Str->Option Value} {base:Heap}
def bk4:Sp:=fun vs H Q _=>∃(t r:Addr) (ts rs:List Int) (k:Int),vs=[.ref t,.ref r,.int k]/\H t=some (.lst (ts.map V.int))/\H r=some (.lst (rs.map V.int))/\t≠r/\rs.Nodup/\(∀x∈rs,0<=x/\x < ts.length)/\
 ∀(ts':List Int) (H':Hp),ts'.length=ts.length->(∀j,j < rs.length->J0 ts' (rs.getD j 0)=some (rs.getD (((j:Int)+k)%(rs.length:Int)).toNat 0))->(∀u,0<=u->u∉rs->J0 ts' u=J0 ts u)->H' t=some (.lst (ts'.map V.int))->j5 t H H'->Q .non H'
theorem cb1:n5 ["target","ring","steps","place","thing"] ["target","ring","steps"] (i8 X8):=by rfl'
theorem dk5 {f:Addr}{fd:FuncData}(F:B6 K "send_along" "send_along" X8 f fd)(B:Bl mg):m9 P w K mg base E2 1 f fd ["target","ring","steps"] bk4:=by
 refine F.ok cb1 (fun vs H Q E h=> ?_) (fun cdv A outer s H vs Q E hr h=> ?_)
 · obtain ⟨t,r,ts,rs,k,rfl,_⟩:=h;rfl
 · obtain ⟨t,r,ts,rs,k,rfl,ht,hrr,ntr,nd,bd,q⟩:=h
   refine ⟨_,g6 (q0 PassesOwn.never rfl (ak1 B.enum (e7 (pv 1) j8)) (X0 rfl (A9 (i9 (i:=3) cb1.nd rfl (Or.inl rfl)) (A9 (i9 (i:=4) cb1.nd rfl (Or.inl rfl)) S2)))
     (g6 (ak5 (N7 G1 (pv 1) (i6 C1 (i6 C0 (pv 3) (pv 2)) (o8 B.len (e7 (pv 1) j8))) (fun _ _=>rfl)) (ap6 (pv 0) (pv 4) ae3)))),?_⟩
   try dsimp only[t6,Cx.nox,Cx.wish]
   refine ⟨_,rfl,r,rfl,⟨_,g9.of hrr⟩,al2 (K:=K) (a:=r) (xs:=rs.map V.int) (fun i σ H2=>∃(ts':List Int) (v3 v4:Option V),σ=[some (.ref t),some (.ref r),some (.int k),v3,v4]/\H2 t=some (.lst (ts'.map V.int))/\ts'.length=ts.length/\(∀j,j < i->J0 ts' (rs.getD j 0)=some (rs.getD (((j:Int)+k)%(rs.length:Int)).toNat 0))/\(∀u,0<=u->u∉rs->J0 ts' u=J0 ts u)/\j5 t H H2)
     ⟨ts,none,none,rfl,ht,rfl,fun j hj=>by omega,fun u _ _=>rfl,j5.refl t H⟩ (fun i σ H2 _ zz=>by obtain ⟨_,_,_,_,_,_,_,_,k⟩:=zz;exact g9.of (k r _ hrr ntr.symm)) ?_ ?_⟩
   · rintro i y σ H2 tt hi ⟨ts',v3,v4,rfl,h2t,hl,hj,hu,kb⟩ htt;obtain ⟨z,hz,rfl⟩:=K7 hi;have hil:i < rs.length:=(ed3.mp hz).1;have h2r:=kb r _ hrr ntr.symm;have nt:t≠tt:=g7 h2t htt;have nr:r≠tt:=g7 h2r htt
     have h3r:(c9 H2 tt (.tup [.int (i:Int),.int z])) r=some (.lst (rs.map V.int)):=by rw[g8 nr];exact h2r
     have h3t:(c9 H2 tt (.tup [.int (i:Int),.int z])) t=some (.lst (ts'.map V.int)):=by rw[g8 nt];exact h2t
     have L0:(0:Int) < (rs.length:Int):=by omega
     have m0:=eh6 ((i:Int)+k) (show (rs.length:Int)≠0 by omega);have m1:=ei7 ((i:Int)+k) L0;refine ⟨tt,_,rfl,R6.of c7,rfl,_,_,rfl,_,_,rfl,rfl,?_⟩;refine ⟨_,rfl,_,rfl,_,rfl,_,_,rfl,rfl,_,rfl,r,_,rfl,.inl (g9.of h3r),?_⟩;rw[ed2];refine ⟨_,_,rfl,rfl,L0,r,_,_,_,rfl,rfl,g9.of h3r,Y3 m0 m1,?_⟩;obtain ⟨z0,z1⟩:=bd z (ee1 hz);refine ⟨_,rfl,_,rfl,t,_,_,z.toNat,rfl,rfl,h3t,?_,?_⟩
     · unfold ixN;rw[ed2,if_pos z0,if_pos (by omega)]
     have es:(ts'.map V.int).set z.toNat (.int (rs.getD (((i:Int)+k)%(rs.length:Int)).toNat 0))=(ts'.set z.toNat (rs.getD (((i:Int)+k)%(rs.length:Int)).toNat 0)).map V.int:=by rw[es6]
     rw[es]
     have hzi:rs.getD i 0=z:=by rw[O7 hil];exact (ed3.mp hz).2
     refine ⟨_,_,_,rfl,c7,by rw[en9];exact hl,fun j hji=> ?_,fun u u0 un=> ?_,fun b o hb hn=> ?_⟩
     · by_cases e:j=i
       · subst e;rw[hzi,al1 (by omega)]
       · have hjl:j < rs.length:=by omega
         have:rs.getD j 0≠z:=by rw[<-hzi];exact V3 nd hjl hil e
         rw[ah5 (bd _ (by rw[O7 hjl];exact eg9 hjl)).1 z0 this];exact hj j (by omega)
     · rw[ah5 u0 z0 (fun e=>un (e▸ee1 hz))];exact hu u u0 un
     · have:=kb b o hb hn;rw[g8 hn,g8 (g7 this htt)];exact this
   · rintro σ H2 ⟨ts',v3,v4,rfl,h2t,hl,hj,hu,kb⟩;rw[ed2] at hj;exact q ts' H2 hl hj hu h2t kb
end
end My
namespace My
open PySem L2 Mth
section
variable {P:Program} {w:World} {K:PySem.W.Frag} {mg:Str->Option Value} {base:Heap}
def bo7:Sp:=fun vs H Q _=>∃(a:Addr) (p:List Int) (k:Int),vs=[.ref a,.int k]/\x9 H a p/\∀(l:Addr) (t:List Int) (H':Hp),H l=none->c6 H H'->ac8 p k t->H' l=some (.lst (t.map V.int))->Q (.ref l) H'
end
end My
namespace My
open PySem L2 Mth
section
variable {P:Program} {w:World} {K:PySem.W.Frag} {mg:Str->Option Value} {base:Heap}
def cn0:Sp:=fun vs H Q _=>∃(x y:Nat),vs=[.int (x:Int),.int (y:Int)]/\Q (.int (eh9 x y:Nat)) H
theorem bw1:n5 ["a","b","rest"] ["a","b"] (i8 ad1):=by rfl'
def dc8 (σ:St):Nat:=match σ[1]? with
 |some (some (V.int i))=>i.toNat
 |_=>0
theorem ds4 {f:Addr}{fd:FuncData}(F:B6 K "greatest_part" "greatest_part" ad1 f fd):m9 P w K mg base E2 1 f fd ["a","b"] cn0:=by
 refine F.ok bw1 (fun vs H Q E h=> ?_) (fun cdv A outer s H vs Q E hr h=> ?_)
 · obtain ⟨x,y,rfl,_⟩:=h;rfl
 · obtain ⟨x,y,rfl,q⟩:=h
   refine ⟨_,c8 (ae2 PassesOwn.never (j6 R9 (pv 1) h8 (j7 _))
       (c8 (i4 (i:=2) bw1.nd rfl (Or.inl rfl) (i6 C1 (pv 0) (pv 1))) (c8 (i4 (i:=0) bw1.nd rfl (Or.inl rfl) (pv 1)) (g6 (i4 (i:=1) bw1.nd rfl (Or.inl rfl) (pv 2))))))
     (g6 (j9 (pv 0))),?_⟩
   try dsimp only[t6,Cx.nox,Cx.wish]
   refine be6 (fun σ H2=>∃(a b:Nat) (v:Option V),σ=[some (.int (a:Int)),some (.int (b:Int)),v]/\eh9 a b=eh9 x y/\H2=H) (fun σ _=>dc8 σ) ⟨x,y,none,rfl,rfl,rfl⟩ ?_ ?_
   · rintro σ H2 ⟨a,b,v,rfl,hg,rfl⟩;refine ⟨_,rfl,rfl,_,rfl,?_⟩
     by_cases hb:b=0
     · subst hb;refine ac5 (by rfl) ?_;refine ⟨_,rfl,?_⟩;rw[Nat.gcd_zero_right] at hg;rw[hg];exact q
     · have hb':¬V.int (b:Int)=V.int 0:=fun z=>hb (by have:=V.int.inj z;omega)
       rw[decide_eq_false hb'];refine J8 ?_;refine ⟨_,rfl,_,rfl,_,_,rfl,rfl,(by show (0:Int) < (b:Int);omega),_,rfl,_,rfl,⟨b,a%b,some (.int ((a:Int)%(b:Int))),?_,?_,rfl⟩,?_⟩
       · rw[el9];rfl
       · rw[<-hg,ex2 a b,Nat.gcd_rec b a,ex2]
       · show ((a:Int)%(b:Int)).toNat < ((b:Int)).toNat;have:=ei7 (a:Int) (show (0:Int) < (b:Int) by omega);have:=eh6 (a:Int) (show (b:Int)≠0 by omega);omega
   · rintro σ H2 Q Q' hq ⟨v,hv,e1,k1,e2,e3⟩;exact ⟨v,hv,e1,k1,e2,hq _ _ e3⟩
end
end My
namespace My
open PySem L2 Mth
section
variable {P:Program} {w:World} {K:PySem.W.Frag} {mg:Str->Option Value} {base:Heap}
theorem dc9 {T J F:List Int}{t:Nat}{u f:Int}(hT:E6 T)(hl:J.length=T.length)(hu:T[t]? =some u)(hf:F[t]? =some f)(h:(T.take t).map (J0 J)=(F.take t).map some):(T.take (t+1)).map (J0 (J.set u.toNat f))=(F.take (t+1)).map some:=by
 have ht:t < T.length:=(ed3.mp hu).1;have hum:=ee1 hu;have u0:=hT.lo u hum;have u1:=hT.hi u hum;rw[m7 hu,m7 hf,ed8,ed8]
 congr 1
 · rw[<-h]
   refine ej9 fun v hv=>ah5 (hT.lo v (ei4 hv)) u0 fun e=> ?_
   obtain ⟨j,hj⟩:=eg6.mp hv
   have hjt:j < t:=by
     have:=(ed3.mp hj).1;rw[ee9] at this;omega
   rw[ei6 hjt] at hj;have e1:=(ed3.mp hj).2;have e2:=(ed3.mp hu).2;exact eg8.mp (ef9.mp hT.nd) j t (by omega) ht hjt (by rw[e1,e2,e])
 · show [J0 (J.set u.toNat f) u]=[some f];rw[al1 (by omega)]
def bk5:Sp:=fun vs H Q _=>∃(a:Addr) (bs:List Addr) (Rs:List (List Int)) (l k:Nat),vs=[.ref a,.int ((Rs.length*k:Nat):Int)]/\H a=some (.lst (bs.map V.ref))/\x5 H bs Rs/\1<=Rs.length/\(∀r∈Rs,r.length=l)/\0 < l/\Rs.length*l<=40/\eh9 l k=1/\
 ∀(o:Addr) (J:List Int) (H':Hp),H o=none->c6 H H'->H' o=some (.lst (J.map V.int))->M4 l k Rs J->Q (.ref o) H'
theorem am4:n5 ["rings","m","whole","joined","lane","ring","step","thing"] ["rings","m"] (i8 al7):=by rfl'
theorem dk6 {f:Addr}{fd:FuncData}(F:B6 K "join_rings" "join_rings" al7 f fd)(B:Bl mg):m9 P w K mg base E2 1 f fd ["rings","m"] bk5:=by
 refine F.ok am4 (fun vs H Q E h=> ?_) (fun cdv A outer s H vs Q E hr h=> ?_)
 · obtain ⟨a,bs,Rs,l,k,rfl,_⟩:=h;rfl
 · obtain ⟨a,bs,Rs,l,k,rfl,ha,rows,d1,hRl,l0,dl,cop,q⟩:=h
   refine ⟨_,c8 (i4 (i:=2) am4.nd rfl (Or.inl rfl) (i6 V9 (o8 B.len (e7 (pv 0) j8)) (o8 B.len (e7 (N7 G1 (pv 0) h8 (fun _ _=>rfl)) j8))))
     (c8 (i4 (i:=3) am4.nd rfl (Or.inl rfl) (i6 ay2 (o5 (e7 h8 j8)) (pv 2)))
     (c8 (q0 PassesOwn.never rfl (ak1 B.enum (e7 (pv 0) j8)) (X0 rfl (A9 (i9 (i:=4) am4.nd rfl (Or.inl rfl)) (A9 (i9 (i:=5) am4.nd rfl (Or.inl rfl)) S2)))
       (g6 (q0 PassesOwn.never rfl (ak1 B.enum (e7 (pv 5) j8)) (X0 rfl (A9 (i9 (i:=6) am4.nd rfl (Or.inl rfl)) (A9 (i9 (i:=7) am4.nd rfl (Or.inl rfl)) S2)))
         (g6 (ak5 (pv 7) (ap6 (pv 3) (i6 C1 (i6 C0 (pv 4) (i6 V9 (pv 6) (pv 1))) (pv 2)) ae3))))))
     (g6 (j9 (pv 3))))),?_⟩
   try dsimp only[t6,Cx.nox,Cx.wish]
   have lb:bs.length=Rs.length:=rows.1;have dR:Rs.length<=Rs.length*l:=ej0 _ l0;have lR:l<=Rs.length*l:=eq5 _ (by omega);have hb0:bs[0]? =some (bs[0]'(by omega)):=ed4 _;generalize (bs[0]'(by omega))=b0 at hb0;have hr0:Rs[0]? =some (Rs[0]'(by omega)):=ed4 _;have lr0:(Rs[0]'(by omega)).length=l:=hRl _ (eg9 _);generalize (Rs[0]'(by omega))=r0 at hr0 lr0;have h0:=rows.2 0 b0 r0 hb0 hr0;refine ⟨_,rfl,a,_,rfl,.inl (g9.of ha),_,rfl,a,_,_,_,rfl,rfl,g9.of ha,S4 (j:=0) (by rw[ed9,hb0];rfl),b0,_,rfl,.inl (g9.of h0),_,_,rfl,rfl,.inl ⟨by rw[ed2];omega,by rw[ed2];omega⟩,?_⟩;rw[ed2,ed2,lb,lr0]
   dsimp only
   have ew:((Rs.length:Nat):Int)*((l:Nat):Int)=((Rs.length*l:Nat):Int):=(eh3 _ _).symm;rw[ew];obtain ⟨D,hD⟩:∃D,D=Rs.length:=⟨_,rfl⟩;rw[<-hD] at d1 dl lb dR lR ⊢;obtain ⟨N,hN⟩:∃N,N=D*l:=⟨_,rfl⟩;rw[<-hN] at dl dR lR ⊢;refine ⟨(by show 1<=sizeLine;decide),fun e he=> ?_⟩;refine ⟨_,rfl,e,_,_,rfl,rfl,c7,by omega,by omega,by show 1*_<=sizeLine;rw[sizeLine_eq];omega,fun n hn=> ?_⟩;rw[show ((N:Nat):Int).toNat=N by omega,bf0]
   have hne:n≠e:=fun z=>by rw[z,c7] at hn;cases hn
   have hn0:H n=none:=by rw[g8 hne] at hn;exact hn
   have s1:c6 H (c9 (c9 H e (.lst [.int 0])) n (.lst ((ef4 N (0:Int)).map V.int))):=(c6.upd_new he).upd_r hn0;have h1n:(c9 (c9 H e (.lst [.int 0])) n (.lst ((ef4 N (0:Int)).map V.int))) n=some (.lst ((ef4 N (0:Int)).map V.int)):=c7;generalize (c9 (c9 H e (.lst [.int 0])) n (.lst ((ef4 N (0:Int)).map V.int)))=H1 at s1 h1n ⊢;have T:=au3 (d:=D) l0 cop;have lT:=al3 D l k;obtain ⟨fl,fg⟩:=bf3 l0 hRl
   refine ⟨_,rfl,a,rfl,⟨_,g9.of (s1 a _ ha)⟩,al2 (K:=K) (a:=a) (xs:=bs.map V.ref) (fun i σ H2=>∃(J:List Int) (v4 v5 v6 v7:Option V),σ=[some (.ref a),some (.int ((D*k:Nat):Int)),some (.int ((N:Nat):Int)),some (.ref n),v4,v5,v6,v7]/\H2 n=some (.lst (J.map V.int))/\J.length=N/\((Z1 D l k).take (i*l)).map (J0 J)=(Rs.flatten.take (i*l)).map some/\c6 H H2)
     ⟨_,none,none,none,none,rfl,h1n,by rw[en5],by rw[ei3];rfl,s1⟩ (fun i σ H2 _ zz=>by obtain ⟨_,_,_,_,_,_,_,_,_,s⟩:=zz;exact g9.of (s a _ ha)) ?_ ?_⟩
   · rintro i y σ H2 t hi ⟨J,v4,v5,v6,v7,rfl,h2n,lJ,hmap,s2⟩ ht;rw[ed9] at hi
     cases hA:bs[i]? with
     |none=>rw[hA] at hi;cases hi
     |some b=>
      rw[hA] at hi;cases hi;have hil:i < bs.length:=(ed3.mp hA).1
      have hiD:i < D:=by omega
      have hri:Rs[i]? =some (Rs[i]'(by omega)):=ed4 _;have lri:(Rs[i]'(by omega)).length=l:=hRl _ (eg9 _);generalize (Rs[i]'(by omega))=r at hri lri;have hrow:=rows.2 i b r hA hri;have s23:c6 H2 (c9 H2 t (.tup [.int (i:Int),.ref b])):=c6.upd_new ht;refine ⟨t,_,rfl,R6.of c7,rfl,_,_,rfl,_,_,rfl,rfl,?_⟩;generalize (c9 H2 t (.tup [.int (i:Int),.ref b]))=H3 at s23 ⊢;have s3:=s2.trans s23;have h3b:=s3 b _ hrow
      refine ⟨_,rfl,b,rfl,⟨_,g9.of h3b⟩,al2 (K:=K) (a:=b) (xs:=r.map V.int) (fun j σ H4=>∃(J:List Int) (v6 v7:Option V),σ=[some (.ref a),some (.int ((D*k:Nat):Int)),some (.int ((N:Nat):Int)),some (.ref n),some (.int (i:Int)),some (.ref b),v6,v7]/\H4 n=some (.lst (J.map V.int))/\J.length=N/\((Z1 D l k).take (i*l+j)).map (J0 J)=(Rs.flatten.take (i*l+j)).map some/\c6 H H4)
        ⟨J,v6,v7,rfl,s23 n _ h2n,lJ,hmap,s3⟩ (fun j σ H4 _ zz=>by obtain ⟨_,_,_,_,_,_,_,s⟩:=zz;exact g9.of (s b _ hrow)) ?_ ?_⟩
      · rintro j y σ H4 t2 hj ⟨J,v6,v7,rfl,h4n,lJ,hmap,s4⟩ ht2;obtain ⟨z,hz,rfl⟩:=K7 hj
        have hjl:j < l:=by rw[<-lri];exact (ed3.mp hz).1
        have s45:c6 H4 (c9 H4 t2 (.tup [.int (j:Int),.int z])):=c6.upd_new ht2;refine ⟨t2,_,rfl,R6.of c7,rfl,_,_,rfl,_,_,rfl,rfl,?_⟩;generalize (c9 H4 t2 (.tup [.int (j:Int),.int z]))=H5 at s45 ⊢;have h5n:=s45 n _ h4n
        have tlt:i*l+j < D*l:=by
          calc i*l+j < i*l+l:=by omega
            _=(i+1)*l:=by rw[em0]
            _<=D*l:=ej3 l hiD
        have dv1:(i*l+j)/l=i:=by rw[ej4,Nat.mul_add_div l0,Nat.div_eq_of_lt hjl,el0]
        have dv2:(i*l+j)%l=j:=by rw[ej4,Nat.mul_add_mod,el2 hjl]
        have hTt:(Z1 D l k)[i*l+j]? =some ((P9 D l k i j:Nat):Int):=by
          unfold Z1;rw[ed9,ek0 tlt];show some ((P9 D l k ((i*l+j)/l) ((i*l+j)%l):Nat):Int)=_;rw[dv1,dv2]
        have hFt:Rs.flatten[i*l+j]? =some z:=by
          rw[fg i j (by omega) hjl,ee4,hri];exact hz
        have ep:((i:Int)+(j:Int)*((D*k:Nat):Int))%((N:Nat):Int)=((P9 D l k i j:Nat):Int):=by
          rw[<-ci1 hiD l0,<-eh3,<-ex6,<-el9,hN]
        have plt:P9 D l k i j < D*l:=bb6 hiD l0;refine ⟨_,rfl,_,rfl,_,rfl,_,rfl,_,rfl,_,_,rfl,rfl,.inl ⟨by omega,by omega⟩,_,_,rfl,rfl,_,rfl,_,_,rfl,rfl,(by show (0:Int) < (N:Int);omega),?_⟩
        dsimp only
        rw[ep];refine ⟨n,_,_,P9 D l k i j,rfl,rfl,h5n,?_,?_⟩
        · unfold ixN;rw[ed2,if_pos (by omega),if_pos (by omega)];rfl
        have es:(J.map V.int).set (P9 D l k i j) (.int z)=(J.set (P9 D l k i j) z).map V.int:=by rw[es6]
        rw[es];refine ⟨_,_,_,rfl,c7,by rw[en9];exact lJ,?_,fun c o hc=>by rw[g8 (g7 hc hn0)];exact s45 c o (s4 c o hc)⟩;have:=dc9 (J:=J) T (by rw[lT];omega) hTt hFt hmap;rw[ej1] at this;exact this
      · rintro σ H4 ⟨J,v6,v7,rfl,h4n,lJ,hmap,s4⟩;rw[ed2,lri] at hmap;refine ⟨J,_,_,_,_,rfl,h4n,lJ,?_,s4⟩;rw[em0];exact hmap
   · rintro σ H2 ⟨J,v4,v5,v6,v7,rfl,h2n,lJ,hmap,s2⟩;rw[ed2,lb,en0 (by rw[lT];exact ed5 _),en0 (by rw[fl,<-hD];exact ed5 _)] at hmap;refine ⟨_,rfl,q n J H2 hn0 s2 h2n ⟨by rw[lJ,hN,hD],by rw[<-hD];exact hmap⟩⟩
end
end My
namespace My
open PySem L2 Mth
section
variable {P:Program} {w:World} {K:PySem.W.Frag} {mg:Str->Option Value} {base:Heap}
def bc2:Sp:=fun vs H Q _=>∃(n:Int),vs=[.int n]/\1<=n/\Q .non H
theorem dg2:n5 ["number"] ["number"] (i8 N0):=by rfl'
theorem cw3 {f:Addr}{fd:FuncData}(F:B6 K "must_be_from_one" "must_be_from_one" N0 f fd)(cW:o4 P w K mg base "is_whole" 1 ["thing"] (af5 K)):m9 P w K mg base E2 2 f fd ["number"] bc2:=by
 refine F.ok dg2 (fun vs H Q E h=> ?_) (fun cdv A outer s H vs Q E hr h=> ?_)
 · obtain ⟨n,rfl,_⟩:=h;rfl
 · obtain ⟨n,rfl,h1,q⟩:=h;have hr1:l6 1 _:=hr.mono (by decide);refine ⟨_,g6 (y8 (O0 (V8 (V7 (i7 cW hr1 (e7 (pv 0) j8)))) (S1 (j6 as1 (pv 0) h8 (j7 _)))).pt (g6 ar9) o7),?_⟩
   try dsimp only[t6,Cx.nox,Cx.wish]
   refine ⟨_,rfl,.int n,_,true,false,rfl,.int n,X3 K "int",X4 K,true,rfl,?_⟩;refine y7 ⟨_,rfl,_,_,rfl,rfl,_,rfl,?_⟩;rw[decide_eq_false (show ¬n < 1 by omega)];exact y7 q
end
end My
namespace My
open PySem L2 Mth
section
variable {P:Program} {w:World} {K:PySem.W.Frag} {mg:Str->Option Value} {base:Heap}
def C2 (es:List (Nat×Addr)):List (q9×V):=es.map fun e=>(Sum.inl (e.1:Int),V.ref e.2)
theorem cb2 {es:List (Nat×Addr)}{l:Nat}{v:V}(h:C3 (C2 es) (Sum.inl (l:Int))=some v):∃e∈es,e.1=l/\v= .ref e.2:=by
 unfold C3 at h
 cases hf:(C2 es).find? (fun kv=>decide (kv.1=Sum.inl (l:Int))) with
 |none=>rw[hf] at h;cases h
 |some kv=>
  rw[hf] at h;have hk:=of_decide_eq_true (List.find?_some (p:=fun kv:q9×V=>decide (kv.1=Sum.inl (l:Int))) hf);obtain ⟨e,he,rfl⟩:=ee5.mp (List.mem_of_find?_eq_some hf);have hk':(Sum.inl (e.1:Int):q9)=Sum.inl (l:Int):=hk;have:=Sum.inl.inj hk';exact ⟨e,he,by omega,(Option.some.inj h).symm⟩
theorem cb3 {es:List (Nat×Addr)}{l:Nat}(h:C3 (C2 es) (Sum.inl (l:Int))=none):l∉es.map (·.1):=by
 intro hm;obtain ⟨e,he,rfl⟩:=ee5.mp hm;unfold C3 at h;have h':=Option.map_eq_none_iff.mp h;exact List.find?_eq_none.mp h' (Sum.inl (e.1:Int),V.ref e.2) (ee5.mpr ⟨e,he,rfl⟩) (by simp)
theorem bo8 {α β:Type}:∀{es:List (α×β)},(es.map (·.1)).Nodup->∀{e f:α×β},e∈es->f∈es->e.1=f.1->e=f
 |[],_,e,f,h,_,_=>by simp at h
 |x::es,nd,e,f,he,hf,h=>by
  obtain ⟨n1,n2⟩:=ei5.mp nd
  rcases ee8.mp he with z|z
  · rcases ee8.mp hf with y|y
    · rw[z,y]
    · exact absurd (ee5.mpr ⟨f,y,by rw[<-h,z]⟩) n1
  · rcases ee8.mp hf with y|y
    · exact absurd (ee5.mpr ⟨e,z,by rw[h,y]⟩) n1
    · exact bo8 n2 z y h
theorem cj5 {α β:Type}:∀{es:List (α×β)},(es.map (·.2)).Nodup->∀{e f:α×β},e∈es->f∈es->e.2=f.2->e=f
 |[],_,e,f,h,_,_=>by simp at h
 |x::es,nd,e,f,he,hf,h=>by
  obtain ⟨n1,n2⟩:=ei5.mp nd
  rcases ee8.mp he with z|z
  · rcases ee8.mp hf with y|y
    · rw[z,y]
    · exact absurd (ee5.mpr ⟨f,y,by rw[<-h,z]⟩) n1
  · rcases ee8.mp hf with y|y
    · exact absurd (ee5.mpr ⟨e,z,by rw[h,y]⟩) n1
    · exact cj5 n2 z y h
theorem cw4 {es:List (Nat×Addr)}(nd:(es.map (·.1)).Nodup){e:Nat×Addr}(he:e∈es):C3 (C2 es) (Sum.inl (e.1:Int))=some (.ref e.2):=by
 cases h:C3 (C2 es) (Sum.inl (e.1:Int)) with
 |none=>exact absurd (ee5.mpr ⟨e,he,rfl⟩) (cb3 h)
 |some v=>
  obtain ⟨f,hf,h1,rfl⟩:=cb2 h;rw[bo8 nd hf he h1]
theorem cj6 {rs:List (List Int)}{r:List Int}{l:Nat}(h:r.length=l):O4 (rs++[r]) l=O4 rs l++[r]:=by
 unfold O4;rw[ep9,eo2 (by simpa using h),er9]
theorem cj7 {rs:List (List Int)}{r:List Int}{l:Nat}(h:r.length≠l):O4 (rs++[r]) l=O4 rs l:=by
 unfold O4;rw[ep9,eo3 (by simpa using h),er9,eg0]
theorem dd0 {rs:List (List Int)}{l:Nat}(h:∀r∈rs,r.length≠l):O4 rs l=[]:=by
 unfold O4
 exact List.filter_eq_nil_iff.mpr fun r hr=>by simpa using h r hr
structure cw5 (H0 H:Hp)(d:Addr)(es:List (Nat×Addr))(rs:List (List Int)):Prop where
 nk:(es.map (·.1)).Nodup
 na:(es.map (·.2)).Nodup
 row:∀e∈es,∃cs:List Addr,H e.2=some (.lst (cs.map V.ref))/\x5 H0 cs (O4 rs e.1)
 key:∀k∈es.map (·.1),∃r∈rs,r.length=k
 all:∀r∈rs,r.length∈es.map (·.1)
 nd:∀e∈es,e.2≠d
def bc3:Sp:=fun vs H Q _=>∃(a:Addr) (as:List Addr) (rs:List (List Int)),vs=[.ref a]/\H a=some (.lst (as.map V.ref))/\x5 H as rs/\rs.length<=40/\
 ∀(d:Addr) (es:List (Nat×Addr)) (H':Hp),H d=none->c6 H H'->H' d=some (.dK (C2 es))->cw5 H H' d es rs->es.length<=40->(∀e∈es,H e.2=none)->Q (.ref d) H'
theorem cb4:n5 ["rings","by_length","ring"] ["rings"] (i8 aa2):=by rfl'
theorem dd1 {f:Addr}{fd:FuncData}(F:B6 K "sort_by_length" "sort_by_length" aa2 f fd)(B:Bl mg):m9 P w K mg base E2 1 f fd ["rings"] bc3:=by
 refine F.ok cb4 (fun vs H Q E h=> ?_) (fun cdv A outer s H vs Q E hr h=> ?_)
 · obtain ⟨a,as,rs,rfl,_⟩:=h;rfl
 · obtain ⟨a,as,rs,rfl,ha,rows,lrs,q⟩:=h
   refine ⟨_,c8 (i4 (i:=1) cb4.nd rfl (Or.inl rfl) V0)
     (c8 (q0 PassesOwn.never rfl (B8 (pv 0)) (i9 (i:=2) cb4.nd rfl (Or.inl rfl))
       (g6 (w9 (B0 (ct0 (pv 1) (e7 (o8 B.len (e7 (pv 2) j8)) (e7 (o5 j8) j8))) (e7 (pv 2) j8)))))
     (g6 (j9 (pv 1)))),?_⟩
   try dsimp only[t6,Cx.nox,Cx.wish]
   refine fun d hd=> ?_
   have s1:c6 H (c9 H d (.dK [])):=c6.upd_new hd;have h1d:(c9 H d (.dK [])) d=some (.dK (C2 [])):=c7;generalize (c9 H d (.dK []))=H1 at s1 h1d ⊢
   refine ⟨_,rfl,a,rfl,⟨_,g9.of (s1 a _ ha)⟩,G4 (K:=K) (a:=a) (xs:=as.map V.ref) (fun i σ H2=>∃(es:List (Nat×Addr)) (v2:Option V),σ=[some (.ref a),some (.ref d),v2]/\H2 d=some (.dK (C2 es))/\cw5 H H2 d es (rs.take i)/\es.length<=i/\(∀e∈es,H e.2=none)/\c6 H H2)
     ⟨[],none,rfl,h1d,⟨ej6,ej6,fun e h=>by simp at h,fun k h=>by simp at h,fun r h=>by simp at h,fun e h=>by simp at h⟩,ed5 _,fun e h=>by simp at h,s1⟩ (fun i σ H2 _ zz=>by obtain ⟨_,_,_,_,_,_,_,s⟩:=zz;exact g9.of (s a _ ha)) ?_ ?_⟩
   · rintro i y σ H2 hi ⟨es,v2,rfl,h2d,bl,les,fr,s2⟩;rw[ed9] at hi
     cases hA:as[i]? with
     |none=>rw[hA] at hi;cases hi
     |some b=>
      rw[hA] at hi;cases hi;have hil:i < as.length:=(ed3.mp hA).1;have hri:rs[i]? =some (rs[i]'(by rw[<-rows.1];exact hil)):=ed4 _;generalize (rs[i]'(by rw[<-rows.1];exact hil))=r at hri;have hb0:=rows.2 i b r hA hri;have hb:=s2 b _ hb0
      have hi40:i < 40:=by have:=rows.1;omega
      have et:rs.take (i+1)=rs.take i++[r]:=m7 hri;refine ⟨_,rfl,.inr (.inr (.inl ⟨rfl,.inl ⟨_,h2d⟩⟩)),_,rfl,b,_,rfl,.inl (g9.of hb),ef5 _,fun e he=> ?_⟩;rw[ed2];have nde:d≠e:=g7 h2d he;have s23:c6 H2 (c9 H2 e (.lst [])):=c6.upd_new he;have h3e:(c9 H2 e (.lst [])) e=some (.lst []):=c7
      have kp:∀c,c≠e->(c9 H2 e (.lst [])) c=H2 c:=fun c hc=>g8 hc
      generalize (c9 H2 e (.lst []))=H3 at s23 h3e kp ⊢;refine ⟨d,C2 es,Sum.inl (r.length:Int),.ref e,rfl,rfl,s23 d _ h2d,?_,fun v hv=> ?_,fun hn=> ?_⟩
      · unfold C2;rw[ed2,sizeLine_eq];omega
      · obtain ⟨e0,he0,hl0,rfl⟩:=cb2 hv;obtain ⟨cs,hcs,rcs⟩:=bl.row e0 he0;have h3x:=s23 e0.2 _ hcs
        have lx:(cs.map V.ref).length<=1000:=by
          rw[ed2,rcs.1];have:=er0 (fun r=>decide (r.length=e0.1)) (rs.take i);rw[ee9] at this;unfold O4;omega
        refine ⟨.inl ⟨rfl,_,g9.of h3x⟩,_,rfl,e0.2,_,_,rfl,rfl,h3x,m8 lx,?_⟩;refine ⟨es,_,rfl,by rw[g8 (bl.nd e0 he0).symm];exact s23 d _ h2d,⟨bl.nk,bl.na,fun e1 he1=> ?_,fun k hk=> ?_,fun r' hr'=> ?_,bl.nd⟩,by omega,fr,fun c o hc=>by rw[g8 (g7 hc (fr e0 he0))];exact s23 c o (s2 c o hc)⟩
        · by_cases h12:e1.2=e0.2
          · have:e1=e0:=cj5 bl.na he1 he0 h12;subst this;refine ⟨cs++[b],by rw[c7,ed8];rfl,?_⟩;rw[et,cj6 hl0.symm];exact ab7 rcs hb0
          · obtain ⟨ys,hys,rys⟩:=bl.row e1 he1;refine ⟨ys,by rw[g8 h12];exact s23 _ _ hys,?_⟩;rw[et,cj7 (fun z=>h12 (by rw[bo8 bl.nk he1 he0 (by omega)]))];exact rys
        · obtain ⟨r',hr',e⟩:=bl.key k hk;exact ⟨r',by rw[et];exact eh8 _ hr',e⟩
        · rw[et] at hr'
          rcases ee2.mp hr' with z|z
          · exact bl.all r' z
          · have:r'=r:=by simpa using z
            rw[this];exact ee5.mpr ⟨e0,he0,hl0⟩
      · have hnk:=cb3 hn
        have ekv:C2 es++[(Sum.inl (r.length:Int),V.ref e)]=C2 (es++[(r.length,e)]):=by unfold C2;rw[ed8];rfl
        rw[ekv]
        have h4e:(c9 H3 d (.dK (C2 (es++[(r.length,e)])))) e=some (.lst []):=by rw[g8 nde.symm];exact h3e
        refine ⟨.inl ⟨rfl,_,g9.of h4e⟩,_,rfl,e,_,_,rfl,rfl,h4e,m8 (ef5 _),?_⟩
        have hne:∀e1∈es,e1.2≠e:=fun e1 he1 z=>by
          obtain ⟨ys,hys,_⟩:=bl.row e1 he1;rw[z,he] at hys;cases hys
        refine ⟨es++[(r.length,e)],_,rfl,by rw[g8 nde,c7],⟨?_,?_,fun e1 he1=> ?_,fun k hk=> ?_,fun r' hr'=> ?_,fun e1 he1=> ?_⟩,by rw[ed6];show es.length+1<=i+1;omega,fun e1 he1=> ?_,fun c o hc=> ?_⟩
        · rw[ed8,ek7];refine ⟨bl.nk,by simp,fun x hx y hy=> ?_⟩
          have:y=r.length:=by simpa using hy
          rw[this]
          exact fun z=>hnk (by rw[<-z];exact hx)
        · rw[ed8,ek7];refine ⟨bl.na,by simp,fun x hx y hy=> ?_⟩
          have:y=e:=by simpa using hy
          rw[this];obtain ⟨e1,he1,rfl⟩:=ee5.mp hx;exact hne e1 he1
        · rcases ee2.mp he1 with z|z
          · obtain ⟨ys,hys,rys⟩:=bl.row e1 z;refine ⟨ys,by rw[g8 (hne e1 z),g8 (bl.nd e1 z),kp _ (hne e1 z)];exact hys,?_⟩;rw[et,cj7 (fun y=>hnk (by rw[y];exact ee5.mpr ⟨e1,z,rfl⟩))];exact rys
          · have:e1=(r.length,e):=by simpa using z
            subst this;refine ⟨[b],c7,?_⟩;show x5 H [b] (O4 (rs.take (i+1)) r.length);rw[et,cj6 rfl,dd0 (fun r' hr' y=>hnk (by rw[<-y];exact bl.all r' hr'))];exact ab7 (as:=[]) (rs:=[]) ⟨rfl,fun j a r h=>by simp at h⟩ hb0
        · rw[ed8] at hk
          rcases ee2.mp hk with z|z
          · obtain ⟨r',hr',e⟩:=bl.key k z;exact ⟨r',by rw[et];exact eh8 _ hr',e⟩
          · have:k=r.length:=by simpa using z
            exact ⟨r,by rw[et];exact ef1 _ (by simp),this.symm⟩
        · rw[et] at hr';rw[ed8]
          rcases ee2.mp hr' with z|z
          · exact eh8 _ (bl.all r' z)
          · have:r'=r:=by simpa using z
            rw[this];exact ef1 _ (by simp)
        · rcases ee2.mp he1 with z|z
          · exact bl.nd e1 z
          · have:e1=(r.length,e):=by simpa using z
            subst this;exact nde.symm
        · rcases ee2.mp he1 with z|z
          · exact fr e1 z
          · have:e1=(r.length,e):=by simpa using z
            subst this;exact s2.free he
        · have h2c:=s2 c o hc;rw[g8 (g7 h2c he),g8 (g7 hc hd),kp _ (g7 h2c he)];exact h2c
   · rintro σ H2 ⟨es,v2,rfl,h2d,bl,les,fr,s2⟩;rw[ed2,rows.1,eg4] at bl;rw[ed2,rows.1] at les;exact ⟨_,rfl,q d es H2 hd s2 h2d bl (by omega) fr⟩
end
end My
namespace My
open PySem L2 Mth
section
variable {P:Program} {w:World} {K:PySem.W.Frag} {mg:Str->Option Value} {base:Heap}
section
variable {X:Cx}
theorem cw6 {o:Expr}{to:TE}{apos pos:Pos}(ho:PE X o to)(hbase:attributeBase o "pop" X.env (eval o X.env)=eval o X.env:=by rfl)(hline:(apos.endLine==pos.line)=true:=by rfl):
 PE X (.Call (.Attribute o "pop" apos) [] [] pos) (dp3 X.K "list" dp5 to):=dp4 PySem.F.plainAttrs_list PySem.F.slot_list_pop PySem.F.type_list_pop dp6 ho hbase hline
theorem cw7 (K:PySem.W.Frag){o e:Expr}{to:TE}{t:TA}{apos pos:Pos}(ho:PE X o to)(ha:PA X [e] t)(hK:X.K=K:=by rfl)
   (hbase:attributeBase o "pop" X.env (eval o X.env)=eval o X.env:=by rfl)
   (hfew:((backTo pos (starEach [e] X.env)).all (fun x=> !x.1)&&(backToKw pos (keywordEach [] X.env)).all (fun x=>x.1.isSome)
     &&decide ([e].length+([]:List Keyword).length+(if ([]:List Keyword).isEmpty then 0 else 1) < 30))=true:=by rfl)
   (hline:(apos.endLine==pos.line)=true:=by rfl) (hs:starEach [e] X.env=(false,eval e X.env)::starEach [] X.env:=by rfl) (hplain:(backTo pos (starEach [] X.env)).any (·.1)=false:=by rfl):
   PE X (.Call (.Attribute o "pop" apos) [e] [] pos) (tBM K "list" cq2 to t):=by
 subst hK;exact bi1 PySem.F.plainAttrs_list PySem.F.slot_list_pop PySem.F.type_list_pop da0 ho ha hbase hfew hline hs hplain
end
def cb5 (K:PySem.W.Frag):Sp:=fun vs H Q _=>∃(a:Addr) (ns:List Int) (k:Int),vs=[.ref a,.int k]/\g9 K H a (ns.map V.int)/\0<=k/\∀z,Q (.int z) H
theorem ds5:n5 ["script","k"] ["script","k"] (i8 ai5):=by rfl'
theorem dk7 {f:Addr}{fd:FuncData}(F:B6 K "_law_cell_at" "_law_cell_at" ai5 f fd)(B:Bl mg):m9 P w K mg base E2 1 f fd ["script","k"] (cb5 K):=by
 refine F.ok ds5 (fun vs H Q E h=> ?_) (fun cdv A outer s H vs Q E hr h=> ?_)
 · obtain ⟨a,ns,k,rfl,_⟩:=h;rfl
 · obtain ⟨a,ns,k,rfl,ha,k0,q⟩:=h;refine ⟨_,c8 (y8 (j6 as1 (pv 1) (o8 B.len (e7 (pv 0) j8)) (j7 _)) (g6 (j9 (N7 G1 (pv 0) (pv 1) (fun _ _=>rfl)))) o7) (g6 (j9 h8)),?_⟩
   try dsimp only[t6,Cx.nox,Cx.wish]
   refine ⟨_,rfl,_,rfl,a,_,rfl,.inl ha,_,_,rfl,rfl,_,rfl,?_⟩;rw[ed2];refine ac4 (fun h=> ?_) (fun h=>q 0);have h:k < (ns.length:Int):=of_decide_eq_true h;exact ⟨_,rfl,_,rfl,a,_,k,_,rfl,rfl,ha,Y3 k0 h,q _⟩
def cb6:Sp:=fun vs H Q _=>∃(z k:Int),vs=[.int z,.int k]/\0<=k/\k<=1000/\∀r:Int,0<=r->Q (.int r) H
theorem cb7:n5 ["cell","k","one"] ["cell","k"] (i8 av2):=by rfl'
theorem dk8 {f:Addr}{fd:FuncData}(F:B6 K "_law_stir" "_law_stir" av2 f fd):m9 P w K mg base E2 1 f fd ["cell","k"] cb6:=by
 refine F.ok cb7 (fun vs H Q E h=> ?_) (fun cdv A outer s H vs Q E hr h=> ?_)
 · obtain ⟨z,k,rfl,_⟩:=h;rfl
 · obtain ⟨z,k,rfl,k0,k1,q⟩:=h
   refine ⟨_,c8 (i4 (i:=2) cb7.nd rfl (Or.inl rfl) (i6 C1 (i6 V9 (i6 C0 (i6 C0 (i6 C1 (pv 0) h8) (i6 V9 h8 (pv 1))) h8) h8) h8))
     (c8 (i4 (i:=2) cb7.nd rfl (Or.inl rfl) (i6 C1 (i6 V9 (pv 2) (pv 2)) h8))
     (g6 (j9 (i6 cg6 (i6 C1 (i6 V9 (i6 C0 (pv 2) (i6 V9 h8 (pv 1))) h8) h8) h8)))),?_⟩
   try dsimp only[t6,Cx.nox,Cx.wish]
   have e64:(2:Int)^64=18446744073709551616:=by decide
   refine ⟨_,rfl,_,_,rfl,rfl,(by show (0:Int) < 2147483629;decide),_,rfl,_,_,rfl,rfl,.inl ⟨by decide,by decide⟩,_,_,rfl,rfl,_,_,rfl,rfl,_,_,rfl,rfl,.inr ⟨by decide,by decide⟩,_,_,rfl,rfl,(by show (0:Int) < 2147483647;decide),?_⟩;refine ⟨_,rfl,_,rfl,_,_,rfl,rfl,.inl ⟨by rw[e64];omega,by rw[e64];omega⟩,_,_,rfl,rfl,(by show (0:Int) < 2147483587;decide),?_⟩;refine ⟨_,rfl,_,rfl,_,_,rfl,rfl,.inl ⟨by decide,by decide⟩,_,_,rfl,rfl,_,_,rfl,rfl,.inr ⟨by decide,by decide⟩,_,_,rfl,rfl,(by show (0:Int) < 2147483563;decide),_,_,rfl,rfl,⟨by decide,by decide⟩,?_⟩;exact q _ (Int.ediv_nonneg (eh6 _ (by decide)) (by decide))
def A0 (H:Hp)(a:Addr):Prop:=∃ds:List Int,H a=some (.lst (ds.map V.int))/\(∀x∈ds,0<=x)/\ds.length<=1000
def cb8:Sp:=fun vs H Q _=>∃(z:Int) (n:Nat),vs=[.int z,.int (n:Int)]/\n<=900/\∀(l:Addr) (H':Hp),H l=none->c6 H H'->A0 H' l->Q (.ref l) H'
theorem am5:n5 ["cell","many","found","digits","k","number"] ["cell","many"] (i8 av3):=by rfl'
theorem dk9 {f:Addr}{fd:FuncData}(F:B6 K "_law_deck" "_law_deck" av3 f fd)(B:Bl mg)(cS:o4 P w K mg base "_law_stir" 1 ["cell","k"] cb6):m9 P w K mg base E2 2 f fd ["cell","many"] cb8:=by
 refine F.ok am5 (fun vs H Q E h=> ?_) (fun cdv A outer s H vs Q E hr h=> ?_)
 · obtain ⟨z,n,rfl,_⟩:=h;rfl
 · obtain ⟨z,n,rfl,n9,q⟩:=h
   refine ⟨_,c8 (i4 (i:=2) am5.nd rfl (Or.inl rfl) (o5 j8))
     (c8 (i4 (i:=3) am5.nd rfl (Or.inl rfl) (pv 0))
     (c8 (q0 PassesOwn.never rfl (Q6 (by rfl) B.range (e7 (pv 1) j8)) (i9 (i:=4) am5.nd rfl (Or.inl rfl))
       (c8 (i4 (i:=5) am5.nd rfl (Or.inl rfl) (i7 cS hr (e7 (pv 0) (e7 (pv 4) j8))))
       (c8 (y8 (j6 bh8 (pv 0) (i6 bh7 h8 h8) (j7 _)) (g6 (i4 (i:=5) am5.nd rfl (Or.inl rfl) (i6 C1 (pv 3) h8))) o7)
       (c8 (i4 (i:=3) am5.nd rfl (Or.inl rfl) (i6 cg6 (pv 3) h8))
       (g6 (w9 (B0 (pv 2) (e7 (pv 5) j8))))))))
     (g6 (j9 (dq6 (pv 2) (Q0 (aj2 ac2 h8))))))),?_⟩
   try dsimp only[t6,Cx.nox,Cx.wish]
   refine ⟨ef5 _,fun l hl=> ?_⟩;have s1:c6 H (c9 H l (.lst [])):=c6.upd_new hl;have h1l:(c9 H l (.lst [])) l=some (.lst []):=c7;generalize (c9 H l (.lst []))=H1 at s1 h1l ⊢;refine ⟨_,rfl,?_⟩
   refine ⟨_,rfl,(n:Int),rfl,by omega,by omega,G7 (lo:=0) (n:=((n:Nat):Int).toNat) (fun i σ H2=>∃(ds:List Int) (dg:Int) (v4 v5:Option V),σ=[some (.int z),some (.int (n:Int)),some (.ref l),some (.int dg),v4,v5]/\H2 l=some (.lst (ds.map V.int))/\ds.length=i/\(∀x∈ds,0<=x)/\c6 H H2)
     ⟨[],z,none,none,rfl,h1l,rfl,fun x hx=>by simp at hx,s1⟩ ?_ ?_⟩
   · rintro i σ H2 hi ⟨ds,dg,v4,v5,rfl,h2l,lds,pos,s2⟩;refine ⟨_,rfl,_,rfl,z,_,rfl,by omega,by omega,fun r r0=> ?_⟩;have cp:do8 10 18:=⟨by decide,by decide,by decide⟩;refine ⟨_,rfl,_,_,rfl,rfl,cp,_,_,rfl,rfl,_,rfl,?_⟩
     have fin:∀w:Int,0<=w->∃(ds':List Int) (dg':Int) (v4 v5:Option V),[some (V.int z),some (V.int (n:Int)),some (.ref l),some (V.int (dg/720720)),some (V.int ((0:Int)+(i:Int))),some (V.int w)]=[some (V.int z),some (V.int (n:Int)),some (.ref l),some (V.int dg'),v4,v5]/\(c9 H2 l (.lst (ds.map V.int++[.int w]))) l=some (.lst (ds'.map V.int))/\ds'.length=i+1/\(∀x∈ds',0<=x)/\c6 H (c9 H2 l (.lst (ds.map V.int++[.int w]))):=fun w w0=>by
       refine ⟨ds++[w],dg/720720,_,_,rfl,by rw[c7,ed8];rfl,by rw[ed6,lds];rfl,fun x hx=> ?_,fun b o hb=>by rw[g8 (g7 hb hl)];exact s2 b o hb⟩
       rcases ee2.mp hx with y|y
       · exact pos x y
       · have:x=w:=by simpa using y
         rw[this];exact w0
     refine ac4 (fun _=> ?_) (fun _=> ?_)
     · refine ⟨_,rfl,_,_,rfl,rfl,(by show (0:Int) < 720720;decide),?_⟩;refine ⟨_,rfl,_,_,rfl,rfl,⟨by decide,by decide⟩,?_⟩;refine ⟨_,rfl,.inl ⟨rfl,_,g9.of h2l⟩,_,rfl,l,_,_,rfl,rfl,h2l,m8 (by rw[ed2];omega),?_⟩;exact fin (dg%720720) (eh6 _ (by decide))
     · refine ⟨_,rfl,_,_,rfl,rfl,⟨by decide,by decide⟩,?_⟩;refine ⟨_,rfl,.inl ⟨rfl,_,g9.of h2l⟩,_,rfl,l,_,_,rfl,rfl,h2l,m8 (by rw[ed2];omega),?_⟩;exact fin r r0
   · rintro σ H2 ⟨ds,dg,v4,v5,rfl,h2l,lds,pos,s2⟩;refine ⟨_,rfl,_,rfl,_,rfl,rfl,l,_,rfl,g9.of h2l,fun o ho=> ?_⟩;refine q o _ (s2.free ho) (s2.upd_r (s2.free ho)) ⟨ds.reverse,by rw[c7,List.map_reverse],fun x hx=>pos x (eo7.mp hx),by rw[eo4];omega⟩
def ar0:Sp:=fun vs H Q _=>∃(a:Addr),vs=[.ref a]/\A0 H a/\∀(r:Int) (H':Hp),0<=r->A0 H' a->j5 a H H'->Q (.int r) H'
theorem ds6:n5 ["deck"] ["deck"] (i8 av4):=by rfl'
theorem dl0 {f:Addr}{fd:FuncData}(F:B6 K "_law_next" "_law_next" av4 f fd):m9 P w K mg base E2 1 f fd ["deck"] ar0:=by
 refine F.ok ds6 (fun vs H Q E h=> ?_) (fun cdv A outer s H vs Q E hr h=> ?_)
 · obtain ⟨a,rfl,_⟩:=h;rfl
 · obtain ⟨a,rfl,⟨ds,ha,pos,len⟩,q⟩:=h;have hu:=Q8 hr;refine ⟨_,c8 (y8 (j6 (bx6 0 hu) (pv 0) (o5 j8) (j7 _)) (g6 (j9 h8)) o7) (g6 (j9 (cw6 (pv 0)))),?_⟩
   try dsimp only[t6,Cx.nox,Cx.wish]
   refine ⟨_,rfl,ef5 _,fun e he=> ?_⟩;have nae:a≠e:=g7 ha he
   have h1a:(c9 H e (.lst [])) a=some (.lst (ds.map V.int)):=by rw[g8 nae];exact ha
   have kb:j5 a H (c9 H e (.lst [])):=fun b o hb _=>by rw[g8 (g7 hb he)];exact hb
   refine ⟨a,e,ds.map V.int,[],_,rfl,rfl,g9.of h1a,g9.of c7,bm4 _ _ _ _,_,rfl,?_⟩;generalize (c9 H e (.lst []))=H1 at h1a kb ⊢
   cases ds with
   |nil=>exact J8 (q 0 H1 (by decide) ⟨[],h1a,pos,len⟩ kb)
   |cons x xs=>
    refine y7 ?_
    have hl:(x::xs).length - 1 < (x::xs).length:=by simp
    have hg:((x::xs).map V.int)[((x::xs).map V.int).length - 1]? =some (.int (x::xs)[(x::xs).length - 1]):=by
      rw[ed2,ed9,ed4 hl];rfl
    refine ⟨_,rfl,.inl ⟨rfl,_,g9.of h1a⟩,a,_,_,rfl,rfl,h1a,hg,?_⟩
    refine q _ _ (pos _ (eg9 hl)) ⟨(x::xs).dropLast,by rw[c7,List.map_dropLast],fun y hy=>pos y ((List.dropLast_sublist _).mem hy),by rw[et6];omega⟩ fun b o hb hn=>by rw[g8 hn];exact kb b o hb hn
end
end My
namespace My
open PySem L2 Mth
section
variable {P:Program} {w:World} {K:PySem.W.Frag} {mg:Str->Option Value} {base:Heap}
def bo9:Sp:=fun vs H Q _=>∃(g:Addr) (n:Nat),vs=[.ref g,.int (n:Int)]/\A0 H g/\n<=40/\
 ∀(l:Addr) (p:List Int) (H':Hp),H l=none->E6 p->p.length=n->H' l=some (.lst (p.map V.int))->A0 H' g->j5 g H H'->Q (.ref l) H'
theorem Y7:n5 ["deck","many","left","order","few","found","at","l","k"] ["deck","many"] (i8 av5):=by rfl'
theorem dw9:(["k","deck","left"]:List Str).Nodup:=by decide+kernel
theorem A0.some {H:Hp}{a:Addr}(h:A0 H a):∃o,H a=some o:=let ⟨_,e,_⟩:=h;⟨_,e⟩
theorem A0.same {H H':Hp}{a:Addr}(h:A0 H a)(s:c6 H H'):A0 H' a:=let ⟨ds,e,r⟩:=h;⟨ds,s _ _ e,r⟩
theorem A0.upd {H:Hp}{a b:Addr}{o:HO}(h:A0 H a)(n:a≠b):A0 (L2.c9 H b o) a:=let ⟨ds,e,r⟩:=h;⟨ds,by rw[g8 n];exact e,r⟩
theorem dd2 {f:Addr}{fd:FuncData}(F:B6 K "_law_turn" "_law_turn" av5 f fd)(B:Bl mg)(cN:o4 P w K mg base "_law_next" 1 ["deck"] ar0):m9 P w K mg base E2 2 f fd ["deck","many"] bo9:=by
 refine F.ok Y7 (fun vs H Q E h=> ?_) (fun cdv A outer s H vs Q E hr h=> ?_)
 · obtain ⟨g,n,rfl,_⟩:=h;rfl
 · obtain ⟨g,n,rfl,hD,n4,q⟩:=h
   refine ⟨_,c8 (i4 (i:=2) Y7.nd rfl (Or.inr rfl) (V2 rfl B.list B.range (e7 (pv 1) j8)))
     (c8 (bm3 (i:=3) (N:=["k","deck","left"]) (nl:=1) (fr:=[0,2]) Y7.nd rfl (Or.inl rfl) rfl .of (Q6 (by rfl) B.range (e7 (pv 1) j8)) (fun _ _ _ _ _=>i9 (i:=0) dw9 rfl (Or.inl rfl))
       (fun _ _ _ _ _=>be8) (fun _ _ _ _ _=>cw7 K (pv 2) (e7 (i6 C1 (i7 cN hr (e7 (pv 1) j8)) (be9 K B.len (e7 (pv 2) j8))) j8)))
     (c8 (y8 (j6 ac3 (i6 C1 (i7 cN hr (e7 (pv 0) j8)) h8) h8 (j7 _)) (g6 (j9 (pv 3))) o7)
     (c8 (i4 (i:=4) Y7.nd rfl (Or.inl rfl) (o5 (e7 (i6 C0 h8 (i6 C1 (i7 cN hr (e7 (pv 0) j8)) h8)) (e7 (i6 C0 h8 (i6 C1 (i7 cN hr (e7 (pv 0) j8)) h8)) j8))))
     (c8 (i4 (i:=5) Y7.nd rfl (Or.inl rfl) (i6 ay2 (o5 (e7 h8 j8)) (pv 1)))
     (c8 (i4 (i:=6) Y7.nd rfl (Or.inl rfl) h8)
     (c8 (ae2 PassesOwn.never (j6 as1 (pv 6) (pv 1) (j7 _))
       (c8 (i4 (i:=7) Y7.nd rfl (Or.inl rfl) (ch6 rfl B.min (e7 (N7 G1 (pv 4) (i6 C1 (i7 cN hr (e7 (pv 0) j8)) h8) (fun _ _=>rfl)) (e7 (i6 Z5 (pv 1) (pv 6)) j8))))
       (c8 (q0 PassesOwn.never rfl (Q6 (by rfl) B.range (e7 (pv 7) j8)) (i9 (i:=8) Y7.nd rfl (Or.inl rfl))
         (g6 (ak5 (N7 G1 (pv 3) (i6 C0 (pv 6) (i6 C1 (i6 C0 (pv 8) h8) (pv 7))) (fun _ _=>rfl)) (ap6 (pv 5) (N7 G1 (pv 3) (i6 C0 (pv 6) (pv 8)) (fun _ _=>rfl)) ae3))))
       (g6 (i4 (i:=6) Y7.nd rfl (Or.inl rfl) (i6 C0 (pv 6) (pv 7)))))))
     (g6 (j9 (pv 5))))))))),?_⟩
   try dsimp only[t6,Cx.nox,Cx.wish]
   refine ⟨_,rfl,_,rfl,fun r hr'=>⟨r,0,(n:Int),rfl,c7,⟨by decide,by decide,by omega,by omega⟩,by omega,fun l hl=> ?_⟩⟩
   have hlr:l≠r:=fun z=>by rw[z,c7] at hl;cases hl
   have hl0:H l=none:=by rw[g8 hlr] at hl;exact hl
   have e0:((n:Int) - 0).toNat=n:=by omega
   rw[e0];have s1:c6 H (c9 (c9 H r (.rng 0 (n:Int))) l (.lst ((P0 0 n).map V.int))):=(c6.upd_new hr').upd_r hl0;have h1l:(c9 (c9 H r (.rng 0 (n:Int))) l (.lst ((P0 0 n).map V.int))) l=some (.lst ((P0 0 n).map V.int)):=c7;generalize (c9 (c9 H r (.rng 0 (n:Int))) l (.lst ((P0 0 n).map V.int)))=H1 at s1 h1l ⊢
   have ngl:g≠l:=by obtain ⟨o,e⟩:=hD.some;exact g7 e hl0
   refine ⟨_,rfl,(n:Int),rfl,by omega,by omega,bi5 (lo:=0) (n:=((n:Nat):Int).toNat) (fun i ys σ H2=>∃(v:Option V) (ls:List V),σ=[v,some (.ref g),some (.ref l)]/\H2 l=some (.lst ls)/\(ys++ls).Perm ((P0 0 n).map V.int)/\ys.length=i/\A0 H2 g/\j5 g H H2)
     ⟨none,_,rfl,h1l,List.Perm.refl _,rfl,hD.same s1,fun b o hb _=>s1 b o hb⟩ ?_ ?_⟩
   · rintro i ys σ H2 hi ⟨v,ls,rfl,h2l,pm,ly,D2,kb2⟩
     have hlen:ys.length+ls.length=n:=by
       have:=pm.length_eq;rw[ed6,ed2,J9] at this;exact this
     have hlp:0 < ls.length:=by omega
     refine ⟨_,rfl,.inl ⟨rfl,_,g9.of h2l⟩,_,rfl,g,rfl,D2,fun x H3 x0 D3 kb3=> ?_⟩;have h3l:=kb3 l _ h2l ngl.symm;refine ⟨_,rfl,l,_,rfl,.inl (g9.of h3l),_,_,rfl,rfl,(by show (0:Int) < (ls.length:Int);omega),?_⟩;have hm0:0<=x%(ls.length:Int):=eh6 _ (by omega);have hm1:x%(ls.length:Int) < (ls.length:Int):=ei7 _ (by omega)
     dsimp only
     generalize x%(ls.length:Int)=jx at hm0 hm1 ⊢;obtain ⟨jn,rfl⟩:=em2 hm0
     have hjl:jn < ls.length:=by omega
     refine ⟨l,_,_,jn,ls[jn],rfl,rfl,h3l,by omega,by omega,?_,ed4 hjl,?_,?_⟩
     · have:ixN ls.length (jn:Int)=some jn:=by
         unfold ixN;rw[if_pos (by omega),if_pos (by omega)];simp
       exact (bm2 this).1
     · exact m8 (by omega)
     · refine ⟨_,_,rfl,c7,?_,by rw[ed6,ly];rfl,D3.upd ngl,fun b o hb hn=>by rw[g8 (g7 hb hl0)];exact kb3 b o (kb2 b o hb hn) hn⟩;have pe:=bi9 (l:=ls) (k:=jn) (ed4 hjl);refine List.Perm.trans ?_ pm;rw[ef2];exact List.Perm.append_left ys pe
   · rintro ys σ H2 ⟨v,ls,rfl,h2l,pm,ly,D2,kb2⟩ m hm
     have hlen:ys.length+ls.length=n:=by
       have:=pm.length_eq;rw[ed6,ed2,J9] at this;exact this
     have:ls=[]:=em4.mp (by omega);subst this;rw[eg0] at pm;obtain ⟨ts,rfl,hts⟩:=cr8 pm;obtain ⟨hT,hTl⟩:=bd4 hts
     have ngm:g≠m:=by obtain ⟨o,e⟩:=D2.some;exact g7 e hm
     have hm0:H m=none:=kb2.free hm ngm.symm;have D3:A0 (c9 H2 m (.lst (ts.map V.int))) g:=D2.upd ngm;have kb3:j5 g H (c9 H2 m (.lst (ts.map V.int))):=kb2.upd_r hm0;have h3m:(c9 H2 m (.lst (ts.map V.int))) m=some (.lst (ts.map V.int)):=c7;generalize (c9 H2 m (.lst (ts.map V.int)))=H3 at D3 kb3 h3m ⊢;refine ⟨_,rfl,g,rfl,D3,fun x1 H4 x10 D4 kb34=> ?_⟩;have h4m:=kb34 m _ h3m ngm.symm;have kb4:=kb3.trans kb34;refine ⟨_,_,rfl,rfl,(by show (0:Int) < 4;decide),rfl,_,rfl,?_⟩;refine ac4 (fun _=>⟨_,rfl,q m ts H4 hm0 hT hTl h4m D4 kb4⟩) (fun _=> ?_);refine ⟨_,rfl,g,rfl,D4,fun x2 H5 x20 D5 kb45=>⟨_,_,rfl,rfl,(by show (0:Int) < 4;decide),_,_,rfl,rfl,?_⟩⟩;refine ⟨_,rfl,g,rfl,D5,fun x3 H6 x30 D6 kb56=>⟨_,_,rfl,rfl,(by show (0:Int) < 6;decide),_,_,rfl,rfl,(by show 2<=sizeLine;decide),fun fw hfw=> ?_⟩⟩
     have ngf:g≠fw:=by obtain ⟨o,e⟩:=D6.some;exact g7 e hfw
     have f1:1<=1+x2%4/\1+x2%4<=4:=by omega
     have f2:1<=1+x3%6/\1+x3%6<=6:=by omega
     have kb6:=(kb4.trans kb45).trans kb56;have hfw0:H fw=none:=kb6.free hfw ngf.symm;have h6m:=kb56 m _ (kb45 m _ h4m ngm.symm) ngm.symm;have nmf:m≠fw:=g7 h6m hfw
     dsimp only
     generalize 1+x2%4=a1 at f1 ⊢;generalize 1+x3%6=a2 at f2 ⊢;have h7f:(c9 H6 fw (.lst [.int a1,.int a2])) fw=some (.lst [.int a1,.int a2]):=c7
     have h7m:(c9 H6 fw (.lst [.int a1,.int a2])) m=some (.lst (ts.map V.int)):=by rw[g8 nmf];exact h6m
     have D7:A0 (c9 H6 fw (.lst [.int a1,.int a2])) g:=D6.upd ngf;have kb7:j5 g H (c9 H6 fw (.lst [.int a1,.int a2])):=kb6.upd_r hfw0;generalize (c9 H6 fw (.lst [.int a1,.int a2]))=H7 at h7f h7m D7 kb7 ⊢;refine ⟨(by show 1<=sizeLine;decide),fun e he=> ?_⟩
     have nge:g≠e:=by obtain ⟨o,e'⟩:=D7.some;exact g7 e' he
     have he0:H e=none:=kb7.free he nge.symm;refine ⟨_,rfl,e,_,_,rfl,rfl,c7,by omega,by omega,by show 1*_<=sizeLine;rw[sizeLine_eq];omega,fun fo hfo=> ?_⟩;rw[show ((n:Nat):Int).toNat=n by omega,bf0]
     have hfe:fo≠e:=fun z=>by rw[z,c7] at hfo;cases hfo
     have hfo7:H7 fo=none:=by rw[g8 hfe] at hfo;exact hfo
     have ngo:g≠fo:=by obtain ⟨o,e'⟩:=D7.some;exact g7 e' hfo7
     have hfo0:H fo=none:=kb7.free hfo7 ngo.symm;have nmo:m≠fo:=g7 h7m hfo7;have nfo:fw≠fo:=g7 h7f hfo7;have s78:c6 H7 (c9 (c9 H7 e (.lst [.int 0])) fo (.lst ((ef4 n (0:Int)).map V.int))):=(c6.upd_new he).upd_r hfo7;have h8o:(c9 (c9 H7 e (.lst [.int 0])) fo (.lst ((ef4 n (0:Int)).map V.int))) fo=some (.lst ((ef4 n (0:Int)).map V.int)):=c7;generalize (c9 (c9 H7 e (.lst [.int 0])) fo (.lst ((ef4 n (0:Int)).map V.int)))=H8 at s78 h8o ⊢
     refine ⟨fun mm σ H9=>∃(fs qs:List Int) (k:Nat) (v7 v8:Option V),σ=[some (.ref g),some (.int (n:Int)),some (.ref l),some (.ref m),some (.ref fw),some (.ref fo),some (.int (k:Int)),v7,v8]/\k<=n/\H9 fo=some (.lst (fs.map V.int))/\H9 m=some (.lst (ts.map V.int))/\H9 fw=some (.lst [.int a1,.int a2])/\fs.length=ts.length/\qs.Perm (ts.take k)/\(ts.take k).map (J0 fs)=qs.map some/\A0 H9 g/\j5 g H H9/\mm=n - k,
       ⟨n,_,[],0,none,none,rfl,ef5 _,h8o,s78 m _ h7m,s78 fw _ h7f,by rw[en5,hTl],List.Perm.refl _,rfl,D7.same s78,fun b o hb hn=>s78 b o (kb7 b o hb hn),by omega⟩,?_⟩
     rintro mm σ H9 ⟨fs,qs,k,v7,v8,rfl,hk,h9o,h9m,h9f,hfl,hq,hmap,D9,kb9,rfl⟩;refine ⟨_,rfl,_,rfl,_,_,rfl,rfl,_,rfl,?_⟩;refine ac4 (fun hlt=> ?_) (fun hge=> ?_)
     · have hlt:(k:Int) < (n:Int):=of_decide_eq_true hlt;refine ⟨fun σ' H'=>∃m',m' < n - k/\_,fun _ _ h=>h,?_⟩;refine ⟨_,rfl,_,rfl,g,rfl,D9,fun x4 H10 x40 D10 kb910=>⟨_,_,rfl,rfl,(by show (0:Int) < 2;decide),?_⟩⟩;have h10f:=kb910 fw _ h9f ngf.symm
       have key:∃av,atI [V.int a1,V.int a2] (x4%2)=some (.int av)/\1<=av:=by
         have:x4%2=0\/x4%2=1:=by omega
         rcases this with e|e
         · rw[e];exact ⟨a1,S4 (j:=0) rfl,f1.1⟩
         · rw[e];exact ⟨a2,S4 (j:=1) rfl,f2.1⟩
       obtain ⟨av,hat,av1⟩:=key;refine ⟨fw,_,_,_,rfl,rfl,g9.of h10f,hat,?_⟩;refine ⟨_,rfl,_,rfl,_,_,rfl,rfl,av,_,rfl,?_⟩
       have hL:∃L:Nat,(if ((n:Int) - (k:Int)) < av then ((n:Int) - (k:Int)) else av)=(L:Int)/\1<=L/\k+L<=n:=by
         split
         · exact ⟨n - k,by omega,by omega,by omega⟩
         · exact ⟨av.toNat,by omega,by omega,by omega⟩
       obtain ⟨L,eL,L1,kL⟩:=hL
       dsimp only
       rw[eL];have h10m:=kb910 m _ h9m ngm.symm;have h10o:=kb910 fo _ h9o ngo.symm;have kb10:=kb9.trans kb910
       have hLn:((L:Nat):Int).toNat=L:=by omega
       refine ⟨_,rfl,(L:Int),rfl,by omega,by omega,G7 (lo:=0) (n:=((L:Nat):Int).toNat) (fun j σ H11=>∃(fs':List Int) (v8':Option V),σ=[some (.ref g),some (.int (n:Int)),some (.ref l),some (.ref m),some (.ref fw),some (.ref fo),some (.int (k:Int)),some (.int (L:Int)),v8']/\H11 fo=some (.lst (fs'.map V.int))/\H11 m=some (.lst (ts.map V.int))/\H11 fw=some (.lst [.int a1,.int a2])/\fs'.length=ts.length/\(ts.take k).map (J0 fs')=qs.map some/\(∀u,u < j->J0 fs' (ts.getD (k+u) 0)=some (ts.getD (k+(u+1)%L) 0))/\A0 H11 g/\j5 g H H11)
         ⟨fs,v8,rfl,h10o,h10m,h10f,hfl,hmap,fun u hu=>by omega,D10,kb10⟩ ?_ ?_⟩
       · rintro j σ H11 hj ⟨fs',v8',rfl,h11o,h11m,h11f,hfl',hmap',hu',D11,kb11⟩
         have hjL:j < L:=by omega
         have hjm:(j+1)%L < L:=en6 _ (by omega)
         have hi1:k+j < ts.length:=by omega
         have hi2:k+(j+1)%L < ts.length:=by omega
         have ej:(k:Int)+((0:Int)+(j:Int)+1)%(L:Int)=((k+(j+1)%L:Nat):Int):=by
           have e1:(0:Int)+(j:Int)+1=((j+1:Nat):Int):=by omega
           rw[e1,<-el9];omega
         have hat1:atI (ts.map V.int) ((k:Int)+((0:Int)+(j:Int)+1)%(L:Int))=some (.int (ts.getD (k+(j+1)%L) 0)):=by
           rw[ej];have:=Y3 (p:=ts) (i:=((k+(j+1)%L:Nat):Int)) (by omega) (by omega);rw[ej1] at this;exact this
         have hat2:atI (ts.map V.int) ((k:Int)+((0:Int)+(j:Int)))=some (.int (ts.getD (k+j) 0)):=by
           have e:(k:Int)+((0:Int)+(j:Int))=((k+j:Nat):Int):=by omega
           rw[e];have:=Y3 (p:=ts) (i:=((k+j:Nat):Int)) (by omega) (by omega);rw[ej1] at this;exact this
         refine ⟨_,rfl,_,rfl,_,rfl,_,_,rfl,rfl,_,rfl,_,_,rfl,rfl,(by show (0:Int) < (L:Int);omega),_,_,rfl,rfl,m,_,_,_,rfl,rfl,g9.of h11m,hat1,?_⟩;refine ⟨_,rfl,_,rfl,_,rfl,_,rfl,_,_,rfl,rfl,m,_,_,_,rfl,rfl,g9.of h11m,hat2,?_⟩
         have htv:ts.getD (k+j) 0∈ts:=by rw[O7 hi1];exact eg9 hi1
         have t0:=hT.lo _ htv;have t1:=hT.hi _ htv;refine ⟨fo,_,_,(ts.getD (k+j) 0).toNat,rfl,rfl,h11o,?_,?_⟩
         · unfold ixN;rw[ed2,if_pos t0,if_pos (by omega)]
         have es:(fs'.map V.int).set (ts.getD (k+j) 0).toNat (.int (ts.getD (k+(j+1)%L) 0))=(fs'.set (ts.getD (k+j) 0).toNat (ts.getD (k+(j+1)%L) 0)).map V.int:=by rw[es6]
         rw[es];refine ⟨_,_,rfl,c7,by rw[g8 nmo];exact h11m,by rw[g8 nfo];exact h11f,by rw[en9];exact hfl',?_,?_,D11.upd ngo,fun b o hb hnn=>by rw[g8 (g7 hb hfo0)];exact kb11 b o hb hnn⟩
         · rw[<-hmap']
           refine ej9 fun u hu=> ?_
           have hut:=ei4 hu
           refine ah5 (hT.lo u hut) t0 fun z=> ?_
           obtain ⟨jj,hjj⟩:=eg6.mp hu
           have hjk:jj < k:=by
             have:=(ed3.mp hjj).1;rw[ee9] at this;omega
           rw[ei6 hjk] at hjj;have:=(ed3.mp hjj).2;exact V3 hT.nd (i:=jj) (j:=k+j) (by omega) hi1 (by omega) (by rw[O7 (show jj < ts.length by omega),this];exact z)
         · intro u hu
           by_cases huj:u=j
           · subst huj;exact al1 (by omega)
           · have huj':u < j:=by omega
             rw[ah5 (hT.lo _ (by rw[O7 (show k+u < ts.length by omega)];exact eg9 _)) t0 (V3 hT.nd (by omega) hi1 (by omega))];exact hu' u huj'
       · rintro σ H11 ⟨fs',v8',rfl,h11o,h11m,h11f,hfl',hmap',hu',D11,kb11⟩;rw[hLn] at hu';obtain ⟨qs',hq',hmap''⟩:=db0 L1 (by omega) hmap' hq hu';refine ⟨_,rfl,_,rfl,_,_,rfl,rfl,n - (k+L),by omega,fs',qs',k+L,some (.int (L:Int)),v8',?_,kL,h11o,h11m,h11f,hfl',hq',hmap'',D11,kb11,rfl⟩;rw[show ((k+L:Nat):Int)=(k:Int)+(L:Int) by omega];rfl
     · have hge:¬(k:Int) < (n:Int):=fun z=>hge (decide_eq_true z)
       have hkl:k=ts.length:=by omega
       rw[hkl,eg4] at hq hmap;have pf:=(bi8 hT hfl hmap).trans (hq.trans hts);obtain ⟨hF,hFl⟩:=bd4 pf;exact ⟨_,rfl,q fo fs H9 hfo0 hF hFl h9o D9 kb9⟩
theorem dd3 {K:PySem.W.Frag}{a:Addr}{xs:List V}{g:TG}{tb:TS}{D:W4}{σ:St}{H:Hp}(Pv:Nat->St->Hp->Prop)(h0:Pv 0 σ H)(hl:∀i σ H,i<=xs.length->Pv i σ H->R6 K H a xs)
   (hs:∀i x σ H,xs[i]? =some x->Pv i σ H->g x σ H fun σ2 H2=>tb {D with nx:=Pv (i+1),ct:=Pv (i+1),bk:=D.nx} σ2 H2) (hd:∀σ H,Pv xs.length σ H->D.nx σ H):
   ∃W:Nat->Nat->St->Hp->Prop,(∃m,W 0 m σ H)/\∀i m σ H,W i m σ H->
    ((Itt K a).stop i H/\D.nx σ H)\/((Itt K a).go i H/\∃N:St->Hp->Prop,(∀σ' H',N σ' H'->∃m',m' < m/\W (i+1) m' σ' H')/\∀x H',(Itt K a).yld i H x H'->g x σ H' fun σ2 H2=>tb {D with nx:=N,ct:=N,bk:=D.nx} σ2 H2):=by
 refine ⟨fun i m σ H=>m=xs.length - i/\i<=xs.length/\Pv i σ H,⟨xs.length,by simp,ef5 _,h0⟩,?_⟩;rintro i m σ H ⟨rfl,hi,p⟩;have q:=hl i σ H hi p
 by_cases hlt:i < xs.length
 · refine .inr ⟨⟨xs,xs[i],q,by simp [hlt]⟩,Pv (i+1),fun σ' H' p'=>⟨xs.length - (i+1),by omega,rfl,hlt,p'⟩,fun x H' y=> ?_⟩;obtain ⟨e,y⟩:=y;subst e;exact hs i x σ _ (y xs q) p
 · have e:i=xs.length:=by omega
   subst e;exact .inl ⟨⟨xs,q,ed5 _⟩,hd σ H p⟩
end
end My
namespace L2
open PySem PySem.Spec PyProof.Rows
theorem e8 {X:Cx}{e:Expr}{te:TE}(ha:PE X e te)(hs:starEach [e] X.env=(false,eval e X.env)::starEach [] X.env:=by rfl):PA X [e] (cl4 te cl3):=e7 ha j8 hs
end L2
namespace My
open PySem L2
section
theorem av9 {A1 A2 A3 B:TS}{k:W4}{σ:St}{H:Hp}(h:let D:=k;let T3:=B;let T2:=t9 A3 T3;let T1:=t9 A2 T2;t9 A1 T1 D σ H):(t9 A1 (t9 A2 (t9 A3 B))) k σ H:=h
theorem cn1 {A1 A2 A3 A4 B:TS}{k:W4}{σ:St}{H:Hp}(h:let D:=k;let T4:=B;let T3:=t9 A4 T4;let T2:=t9 A3 T3;let T1:=t9 A2 T2;t9 A1 T1 D σ H):(t9 A1 (t9 A2 (t9 A3 (t9 A4 B)))) k σ H:=h
theorem dg3 {A1 A2 A3 A4 A5 B:TS}{k:W4}{σ:St}{H:Hp}(h:let D:=k;let T5:=B;let T4:=t9 A5 T5;let T3:=t9 A4 T4;let T2:=t9 A3 T3;let T1:=t9 A2 T2;t9 A1 T1 D σ H):(t9 A1 (t9 A2 (t9 A3 (t9 A4 (t9 A5 B))))) k σ H:=h
theorem dg4 {A1 A2 A3 A4 A5 A6 B:TS}{k:W4}{σ:St}{H:Hp}(h:let D:=k;let T6:=B;let T5:=t9 A6 T6;let T4:=t9 A5 T5;let T3:=t9 A4 T4;let T2:=t9 A3 T3;let T1:=t9 A2 T2;t9 A1 T1 D σ H):(t9 A1 (t9 A2 (t9 A3 (t9 A4 (t9 A5 (t9 A6 B)))))) k σ H:=h
theorem dx0 {A1 A2 A3 A4 A5 A6 A7 A8 B:TS}{k:W4}{σ:St}{H:Hp}(h:let D:=k;let T8:=B;let T7:=t9 A8 T8;let T6:=t9 A7 T7;let T5:=t9 A6 T6;let T4:=t9 A5 T5;let T3:=t9 A4 T4;let T2:=t9 A3 T3;let T1:=t9 A2 T2;t9 A1 T1 D σ H):(t9 A1 (t9 A2 (t9 A3 (t9 A4 (t9 A5 (t9 A6 (t9 A7 (t9 A8 B)))))))) k σ H:=h
end
end My
namespace My
open PySem L2 Mth
section
variable {P:Program} {w:World} {K:PySem.W.Frag} {mg:Str->Option Value} {base:Heap}
theorem Q3:n5 ["p","met","found","thing","one"] ["p"] (i8 al8):=by rfl'
theorem bv0 {f:Addr}{fd:FuncData}(F:B6 K "_law_rounds" "_law_rounds" al8 f fd)(B:Bl mg):m9 P w K mg base E2 1 f fd ["p"] ab6:=by
 refine F.ok Q3 (fun vs H Q E h=> ?_) (fun cdv A outer s H vs Q E hr h=> ?_)
 · obtain ⟨a,p,rfl,⟨ha,tp,lp⟩,q⟩:=h;rfl
 · obtain ⟨a,p,rfl,⟨ha,tp,lp⟩,q⟩:=h;have hu:=Q8 hr;refine ⟨_,@c8 _ _ _ _ _ (@i4 _ _ (1) _ _ _ _ Q3.nd rfl (Or.inl rfl) (@V0 _ _) (by rfl) (by trivial)) (@c8 _ _ _ _ _ (@i4 _ _ (2) _ _ _ _ Q3.nd rfl (Or.inl rfl) (@o5 _ _ _ _ (@j8 _)) (by rfl) (by trivial)) (@c8 _ _ _ _ _ (@q0 _ _ _ _ _ _ _ _ PassesOwn.never rfl (@Q6 _ _ _ _ _ _ (by rfl) B.range (@e8 _ _ _ (@o8 _ _ _ _ _ B.len (@e8 _ _ _ (pv 0) (by rfl)) (by rfl) (by rfl)) (by rfl)) (by rfl)) (@i9 _ _ (3) _ Q3.nd rfl (Or.inl rfl) (by trivial)) (@g6 _ _ _ (@y8 _ _ _ _ _ _ _ _ (@ax9 _ _ _ _ _ _ (@ay3 _ _ _ _ _ hu (pv 3) (pv 1)) (by first|exact nobehind _ (by decide) (by decide)|rfl)) (@c8 _ _ _ _ _ (@i4 _ _ (4) _ _ _ _ Q3.nd rfl (Or.inl rfl) (@o5 _ _ _ _ (@j8 _)) (by rfl) (by trivial)) (@c8 _ _ _ _ _ (@ae2 _ _ _ _ _ _ PassesOwn.never (@ax9 _ _ _ _ _ _ (@ay3 _ _ _ _ _ hu (pv 3) (pv 1)) (by first|exact nobehind _ (by decide) (by decide)|rfl)) (@c8 _ _ _ _ _ (@aj8 _ _ _ _ _ _ _ _ _ hu (pv 1) (pv 3) (@K2 _ _ _ _) rfl) (@c8 _ _ _ _ _ (@w9 _ _ _ _ (@B0 _ _ _ _ _ _ _ (pv 4) (@e8 _ _ _ (pv 3) (by rfl)) (by rfl) (by rfl) (by rfl) (by rfl) (by rfl)) (by rfl)) (@g6 _ _ _ (@i4 _ _ (3) _ _ _ _ Q3.nd rfl (Or.inl rfl) (@N7 _ _ _ _ _ _ _ G1 (pv 0) (pv 3) (fun _ _=>rfl)) (by rfl) (by trivial)))))) (@g6 _ _ _ (@w9 _ _ _ _ (@B0 _ _ _ _ _ _ _ (pv 2) (@e8 _ _ _ (pv 4) (by rfl)) (by rfl) (by rfl) (by rfl) (by rfl) (by rfl)) (by rfl))))) (@o7 _))) (by intro _;rfl)) (@g6 _ _ _ (@j9 _ _ _ _ (pv 2))))),?_⟩;refine av9 ?_;intros
   try dsimp only[t6,Cx.nox,Cx.wish]
   intro d hd;have nad:a≠d:=g7 ha hd;have s1:c6 H (c9 H d (.dK [])):=c6.upd_new hd;have h1d:(c9 H d (.dK [])) d=some (.dK []):=c7;generalize (c9 H d (.dK []))=H1 at s1 h1d ⊢;refine ⟨ef5 _,fun l hl=> ?_⟩;have ndl:d≠l:=g7 h1d hl;have hl0:H l=none:=s1.free hl;have s2:c6 H (c9 H1 l (.lst [])):=s1.upd_r hl0;have h2l:(c9 H1 l (.lst [])) l=some (.lst []):=c7
   have h2d:(c9 H1 l (.lst [])) d=some (.dK []):=by rw[g8 ndl];exact h1d
   generalize (c9 H1 l (.lst []))=H2 at s2 h2l h2d ⊢;refine ⟨_,rfl,a,_,rfl,.inl (g9.of (s2 a _ ha)),(p.length:Int),?_,by omega,by omega,?_⟩
   · rw[ed2]
   rw[show ((p.length:Int)).toNat=p.length by omega]
   refine G7 (lo:=0) (n:=p.length) (fun i σ H3=>∃(as:List Addr) (rs:List (List Int)) (v3 v4:Option V),σ=[some (.ref a),some (.ref d),some (.ref l),v3,v4]/\H3 l=some (.lst (as.map V.ref))/\H3 d=some (.dK (K6 rs.flatten))/\x5 H3 as rs/\J5 p i rs/\c6 H H3/\(∀b∈as,H b=none)/\as.Nodup/\l∉as)
     ⟨[],[],none,none,rfl,h2l,h2d,⟨rfl,fun j b r h=>by simp at h⟩,at5 p,s2,fun b hb=>by simp at hb,ej6,by simp⟩ ?_ ?_
   · rintro i σ H3 hi ⟨as,rs,v3,v4,rfl,h3l,h3d,rows,up,s3,fa,nda,nla⟩;have hx:In p (i:Int):=⟨by omega,by omega⟩
     have e0:(0:Int)+(i:Int)=(i:Int):=by omega
     rw[e0];refine ⟨_,rfl,_,rfl,d,_,rfl,X1.k (k:=Sum.inl (i:Int)) h3d,_,rfl,?_⟩
     by_cases hm:(i:Int)∈rs.flatten
     · rw[al0 hm];refine y7 ?_;exact ⟨as,rs,_,_,rfl,h3l,h3d,rows,at6 up hm,s3,fa,nda,nla⟩
     · rw[ae6 hm];refine J8 ?_;obtain ⟨L,pr⟩:=by1 tp hx;have fr:=ao5 up pr hm;have fl:=am3 tp up;have cl:=af7 up;have lenas:=rows.1
       have lL:=O1 tp hx (m:=L) fun j j0 j1=>pr.least j j0 j1
       refine ⟨ef5 _,fun e he=> ?_⟩;have nle:l≠e:=g7 h3l he;have nde:d≠e:=g7 h3d he;have he0:H e=none:=s3.free he;have h4e:(c9 H3 e (.lst [])) e=some (.lst ((o6 p i 0).map V.int)):=c7
       have h4d:(c9 H3 e (.lst [])) d=some (.dK (K6 (rs.flatten++o6 p i 0))):=by rw[g8 nde,h3d];unfold o6;rw[List.range_zero,ep4,eg0]
       have k4:∀b o,H3 b=some o->b≠d->(c9 H3 e (.lst [])) b=some o:=fun b o hb _=>by rw[g8 (g7 hb he)];exact hb
       generalize (c9 H3 e (.lst []))=H4 at h4e h4d k4 ⊢
       refine be6 (fun σ H5=>∃j:Nat,j<=L/\σ=[some (.ref a),some (.ref d),some (.ref l),some (.int (it p j i)),some (.ref e)]/\H5 e=some (.lst ((o6 p i j).map V.int))/\H5 d=some (.dK (K6 (rs.flatten++o6 p i j)))/\(∀b o,H3 b=some o->b≠d->H5 b=some o)) (fun _ H5=>L - bw0 H5 e)
         ⟨0,ef5 _,rfl,h4e,h4d,k4⟩ ?_ ?_
       · rintro σ H5 ⟨j,jL,rfl,h5e,h5d,k5⟩;refine ⟨_,rfl,_,rfl,d,_,rfl,X1.k (k:=Sum.inl (it p j i)) h5d,_,rfl,?_⟩
         by_cases hj:j=L
         · subst hj;rw[al0 (show it p j i∈rs.flatten++o6 p i j by rw[pr.back];exact ef1 _ (M9.mpr ⟨0,pr.pos,rfl⟩))];refine y7 ?_;have h5l:=k5 l _ h3l ndl.symm;refine ⟨_,rfl,.inl ⟨rfl,_,g9.of h5l⟩,_,rfl,l,_,_,rfl,rfl,h5l,m8 (by rw[ed2,lenas];omega),?_⟩
           have es:as.map V.ref++[V.ref e]=(as++[e]).map V.ref:=by rw[ed8];rfl
           rw[es]
           have nad:∀b∈as,b≠d/\b≠l:=fun b hb=>by
             obtain ⟨r,hr'⟩:=af6 rows hb;exact ⟨ck6 hr' h3d (by intro z;cases z),fun z=>nla (z▸hb)⟩
           refine ⟨as++[e],rs++[o6 p i j],_,_,rfl,c7,?_,?_,at8 tp up hx pr hm,?_,?_,?_,?_⟩
           · rw[g8 ndl,h5d,ek5,el4]
           · refine ab7 (J2 rows fun b hb o ho=> ?_) ?_
             · rw[g8 (nad b hb).2];exact k5 b o ho (nad b hb).1
             · rw[g8 nle.symm];exact h5e
           · intro b o hb;rw[g8 (g7 hb hl0)];exact k5 b o (s3 b o hb) (g7 hb hd)
           · intro b hb
             rcases ee2.mp hb with g|g
             · exact fa b g
             · have:b=e:=by simpa using g
               rw[this];exact he0
           · refine ak0 nda fun g=> ?_
             obtain ⟨r,hr'⟩:=af6 rows g;rw[he] at hr';cases hr'
           · intro g
             rcases ee2.mp g with g|g
             · exact nla g
             · exact nle (by simpa using g)
         · have hjL:j < L:=by omega
           have nm:it p j i∉rs.flatten++o6 p i j:=fun g=>by
             rcases ee2.mp g with g|g
             · exact fr _ (M9.mpr ⟨j,hjL,rfl⟩) g
             · obtain ⟨b,hb,e1⟩:=M9.mp g
               have e2:j=(j - b)+b:=by omega
               rw[e2,M8] at e1;have:=bj1 tp (ac7 tp hx (j - b)) hx b (by rw[<-M8,em1,M8];exact e1);exact pr.least (j - b) (by omega) (by omega) this
           rw[ae6 nm];refine J8 ?_;refine ⟨_,rfl,_,rfl,d,_,rfl,ao4.k (k:=Sum.inl (it p j i)) h5d (m8 (by unfold K6;rw[ed2,ed6,x6];omega)),?_⟩;rw[an7 nm]
           have h6d:(c9 H5 d (.dK (K6 (rs.flatten++o6 p i j++[it p j i])))) d=some (.dK (K6 (rs.flatten++o6 p i (j+1)))):=by rw[c7,at4,ef2]
           have h6e:(c9 H5 d (.dK (K6 (rs.flatten++o6 p i j++[it p j i])))) e=some (.lst ((o6 p i j).map V.int)):=by rw[g8 nde.symm];exact h5e
           have k6:∀b o,H3 b=some o->b≠d->(c9 H5 d (.dK (K6 (rs.flatten++o6 p i j++[it p j i])))) b=some o:=fun b o hb hn=>by rw[g8 hn];exact k5 b o hb hn
           generalize (c9 H5 d (.dK (K6 (rs.flatten++o6 p i j++[it p j i]))))=H6 at h6d h6e k6 ⊢;refine ⟨_,rfl,.inl ⟨rfl,_,g9.of h6e⟩,_,rfl,e,_,_,rfl,rfl,h6e,m8 (by rw[ed2,x6];omega),?_⟩;have hin:=ac7 tp hx j;have nae:a≠e:=g7 (s3 a _ ha) he;refine ⟨_,rfl,_,rfl,a,_,_,_,rfl,rfl,g9.of (by rw[g8 nae];exact k6 a _ (s3 a _ ha) nad),Y3 hin.1 hin.2,?_⟩
           have h7e:(c9 H6 e (.lst ((o6 p i j).map V.int++[.int (it p j i)]))) e=some (.lst ((o6 p i (j+1)).map V.int)):=by
             rw[c7,at4,ed8];rfl
           refine ⟨⟨j+1,by omega,rfl,h7e,by rw[g8 nde];exact h6d,fun b o hb hn=> ?_⟩,?_⟩
           · rw[g8 (g7 hb he)];exact k6 b o hb hn
           · rw[av8 h7e,av8 h5e,ed2,ed2,x6,x6];omega
       · rintro σ H5 Q Q' hq ⟨v,hv,u,hu',dd,rr,e1,g,c,e2,e3⟩;exact ⟨v,hv,u,hu',dd,rr,e1,g,c,e2,hq _ _ e3⟩
   · rintro σ H3 ⟨as,rs,v3,v4,rfl,h3l,h3d,rows,up,s3,fa,nda,nla⟩;exact ⟨_,rfl,q l as rs H3 hl0 s3 h3l rows up fa nda nla⟩
end
end My
namespace My
open PySem L2 Mth
section
variable {P:Program} {w:World} {K:PySem.W.Frag} {mg:Str->Option Value} {base:Heap}
theorem ad5:n5 ["p","m","found","one","k"] ["p","m"] (i8 ap1):=by rfl'
theorem cb9 {f:Addr}{fd:FuncData}(F:B6 K "_law_power" "_law_power" ap1 f fd)(B:Bl mg)(zrz:o4 P w K mg base "_law_rounds" 1 ["p"] ab6):m9 P w K mg base E2 2 f fd ["p","m"] bo7:=by
 refine F.ok ad5 (fun vs H Q E h=> ?_) (fun cdv A outer s H vs Q E hr h=> ?_)
 · obtain ⟨a,p,k,rfl,⟨ha,tp,lp⟩,q⟩:=h;rfl
 · obtain ⟨a,p,k,rfl,⟨ha,tp,lp⟩,q⟩:=h;have zj:l6 1 _:=hr.mono (by decide);refine ⟨_,@c8 _ _ _ _ _ (@i4 _ _ (2) _ _ _ _ ad5.nd rfl (Or.inl rfl) (@i6 _ _ _ _ _ _ _ _ ay2 (@o5 _ _ _ _ (@e8 _ _ _ (@h8 _ _ _ _) (by rfl))) (@o8 _ _ _ _ _ B.len (@e8 _ _ _ (pv 0) (by rfl)) (by rfl) (by rfl))) (by rfl) (by trivial)) (@c8 _ _ _ _ _ (@q0 _ _ _ _ _ _ _ _ PassesOwn.never rfl (@B8 _ _ _ _ (@i7 _ _ _ _ _ _ _ _ _ _ zrz zj (@e8 _ _ _ (pv 0) (by rfl)) (by rfl) (by decide) (by rfl) (by rfl))) (@i9 _ _ (3) _ ad5.nd rfl (Or.inl rfl) (by trivial)) (@g6 _ _ _ (@q0 _ _ _ _ _ _ _ _ PassesOwn.never rfl (@Q6 _ _ _ _ _ _ (by rfl) B.range (@e8 _ _ _ (@o8 _ _ _ _ _ B.len (@e8 _ _ _ (pv 3) (by rfl)) (by rfl) (by rfl)) (by rfl)) (by rfl)) (@i9 _ _ (4) _ ad5.nd rfl (Or.inl rfl) (by trivial)) (@g6 _ _ _ (@ak5 _ _ _ _ _ _ (@N7 _ _ _ _ _ _ _ G1 (pv 3) (@i6 _ _ _ _ _ _ _ _ C1 (@i6 _ _ _ _ _ _ _ _ C0 (pv 4) (pv 1)) (@o8 _ _ _ _ _ B.len (@e8 _ _ _ (pv 3) (by rfl)) (by rfl) (by rfl))) (fun _ _=>rfl)) (@ap6 _ _ _ _ _ _ _ (pv 2) (@N7 _ _ _ _ _ _ _ G1 (pv 3) (pv 4) (fun _ _=>rfl)) ae3 (by intro _;rfl)) (by rfl) (by rfl) (by rfl))) (by intro _;rfl))) (by intro _;rfl)) (@g6 _ _ _ (@j9 _ _ _ _ (pv 2)))),?_⟩
   try dsimp only[t6,Cx.nox,Cx.wish]
   refine ⟨(by show 1<=sizeLine;decide),fun z0 hz0=> ?_⟩;have s1:c6 H (c9 H z0 (.lst [.int 0])):=c6.upd_new hz0;have h1z:(c9 H z0 (.lst [.int 0])) z0=some (.lst [.int 0]):=c7;generalize (c9 H z0 (.lst [.int 0]))=H1 at s1 h1z ⊢;refine ⟨_,rfl,a,_,rfl,.inl (g9.of (s1 a _ ha)),z0,_,_,rfl,rfl,h1z,by rw[ed2];omega,by rw[ed2];omega,by rw[ed2];show 1*_<=_;rw[sizeLine_eq];omega,fun l hl=> ?_⟩;have hl0:H l=none:=s1.free hl
   have erep:(ef4 ((((p.map V.int).length:Nat):Int)).toNat [V.int 0]).flatten=(ef4 p.length (0:Int)).map V.int:=by
     rw[ed2,show ((p.length:Int)).toNat=p.length by omega];exact bf0 _
   rw[erep];have s2:c6 H (c9 H1 l (.lst ((ef4 p.length (0:Int)).map V.int))):=s1.upd_r hl0;have h2l:(c9 H1 l (.lst ((ef4 p.length (0:Int)).map V.int))) l=some (.lst ((ef4 p.length (0:Int)).map V.int)):=c7;generalize (c9 H1 l (.lst ((ef4 p.length (0:Int)).map V.int)))=H2 at s2 h2l ⊢;refine ⟨_,rfl,a,p,rfl,⟨s2 a _ ha,tp,lp⟩,fun g as rs H3 hg s23 h3g rows up fa nda nga=> ?_⟩;have h3l:=s23 l _ h2l
   have ngl:g≠l:=fun z=>by rw[z,h2l] at hg;cases hg
   refine ⟨g,rfl,⟨_,g9.of h3g⟩,G4 (K:=K) (a:=g) (xs:=as.map V.ref) (fun i σ H4=>∃(ts:List Int) (v3 v4:Option V),σ=[some (.ref a),some (.int k),some (.ref l),v3,v4]/\H4 l=some (.lst (ts.map V.int))/\ts.length=p.length/\(∀x∈(rs.take i).flatten,∃L,S8 p x L/\J0 ts x=some (it p (k%(L:Int)).toNat x))/\j5 l H3 H4)
     ⟨_,none,none,rfl,h3l,en5,fun x hx=>by simp at hx,j5.refl l H3⟩ (fun i σ H4 _ zz=>by obtain ⟨_,_,_,_,_,_,_,kb⟩:=zz;exact g9.of (kb g _ h3g ngl)) ?_ ?_⟩
   · rintro i y σ H4 hi ⟨ts,v3,v4,rfl,h4l,hl4,hx4,kb⟩;rw[ed9] at hi
     cases hai:as[i]? with
     |none=>rw[hai] at hi;cases hi
     |some e=>
      rw[hai] at hi;cases hi;have hil:i < as.length:=(ed3.mp hai).1;have hri:rs[i]? =some (rs[i]'(by rw[<-rows.1];exact hil)):=ed4 _;generalize hR:rs[i]'(by rw[<-rows.1];exact hil)=R at hri;have h3e:=rows.2 i e R hai hri;have hRm:R∈rs:=ee1 hri;obtain ⟨x,L,hx,pr,eR,_⟩:=up.ring R hRm
      have nle:l≠e:=fun z=>by have:=fa e (ee1 hai);rw[<-z,h2l] at this;cases this
      have h4e:=kb e _ h3e nle.symm
      have lR:R.length=L:=by rw[eR,x6]
      have Lp:=pr.pos
      have lL:=O1 tp hx (m:=L) fun j j0 j1=>pr.least j j0 j1
      have ndR:R.Nodup:=by rw[eR];exact ag6 tp hx fun j j0 j1=>pr.least j j0 j1
      have bdR:∀y∈R,0<=y/\y < p.length:=fun y hy=>by rw[eR] at hy;exact ae7 tp hx y hy
      refine ⟨_,rfl,e,_,rfl,.inl (g9.of h4e),(L:Int),by rw[ed2,lR],by omega,by omega,?_⟩;rw[show ((L:Int)).toNat=L by omega]
      refine G7 (lo:=0) (n:=L) (fun j σ H5=>∃(ts':List Int) (v4:Option V),σ=[some (.ref a),some (.int k),some (.ref l),some (.ref e),v4]/\H5 l=some (.lst (ts'.map V.int))/\ts'.length=p.length/\(∀c,c < j->J0 ts' (R.getD c 0)=some (R.getD (((c:Int)+k)%(R.length:Int)).toNat 0))/\(∀u,0<=u->u∉R->J0 ts' u=J0 ts u)/\j5 l H4 H5)
        ⟨ts,v4,rfl,h4l,hl4,fun j hj=>by omega,fun u _ _=>rfl,j5.refl l H4⟩ ?_ ?_
      · rintro j σ H5 hj ⟨ts',v4,rfl,h5l,hl5,hc,hu',kb5⟩;have h5e:=kb5 e _ h4e nle.symm
        have e0:(0:Int)+(j:Int)=(j:Int):=by omega
        rw[e0];have m0:=eh6 ((j:Int)+k) (show (R.length:Int)≠0 by omega);have m1:=ei7 ((j:Int)+k) (show (0:Int) < (R.length:Int) by omega);refine ⟨_,rfl,_,rfl,_,rfl,_,_,rfl,rfl,_,rfl,e,_,rfl,.inl (g9.of h5e),?_⟩;rw[ed2];refine ⟨_,_,rfl,rfl,(by show (0:Int) < (R.length:Int);omega),e,_,_,_,rfl,rfl,g9.of h5e,Y3 m0 m1,?_⟩
        have hzi:R.getD j 0∈R:=by rw[O7 (show j < R.length by omega)];exact eg9 _
        obtain ⟨z0,z1⟩:=bdR _ hzi;refine ⟨_,rfl,_,rfl,_,rfl,e,_,_,_,rfl,rfl,g9.of h5e,Y3 (by omega) (by omega),l,_,_,(R.getD j 0).toNat,rfl,rfl,h5l,?_,?_⟩
        · unfold ixN;rw[ed2,show ((j:Int)).toNat=j by omega,if_pos z0,if_pos (by omega)]
        have es:(ts'.map V.int).set (R.getD j 0).toNat (.int (R.getD (((j:Int)+k)%(R.length:Int)).toNat 0))=(ts'.set (R.getD j 0).toNat (R.getD (((j:Int)+k)%(R.length:Int)).toNat 0)).map V.int:=by rw[es6]
        rw[es];refine ⟨_,_,rfl,c7,by rw[en9];exact hl5,fun c hcj=> ?_,fun u u0 un=> ?_,fun b o hb hn=> ?_⟩
        · by_cases e:c=j
          · subst e;rw[al1 (by omega)]
          · have:R.getD c 0≠R.getD j 0:=V3 ndR (by omega) (by omega) e;rw[ah5 (bdR _ (by rw[O7 (show c < R.length by omega)];exact eg9 _)).1 z0 this];exact hc c (by omega)
        · rw[ah5 u0 z0 (fun e=>un (e▸hzi))];exact hu' u u0 un
        · rw[g8 hn];exact kb5 b o hb hn
      · rintro σ H5 ⟨ts',v4,rfl,h5l,hl5,hj,hu',kb5⟩;refine ⟨ts',_,_,rfl,h5l,hl5,fun y hy=> ?_,kb.trans kb5⟩;rw[m7 hri,ek5,el4] at hy
        by_cases hyR:y∈R
        · rw[eR] at hyR;obtain ⟨j,hjL,rfl⟩:=M9.mp hyR;refine ⟨L,pr.shift tp hx j,?_⟩;have:=hj j hjL;rw[lR] at this;have b0:=eh6 ((j:Int)+k) (show (L:Int)≠0 by omega);have b1:=ei7 ((j:Int)+k) (show (0:Int) < (L:Int) by omega);rw[eR,Y4 hjL,Y4 (by omega),cm1 pr] at this;exact this
        · rcases ee2.mp hy with g'|g'
          · obtain ⟨M,pm,em⟩:=hx4 y g';refine ⟨M,pm,?_⟩
            have y0:0<=y:=by
              obtain ⟨r,hr',hyr⟩:=ek1.mp g';obtain ⟨x',L',hx',_,er,_⟩:=up.ring r (ei4 hr');rw[er] at hyr;exact (ae7 tp hx' y hyr).1
            rw[hu' y y0 hyR];exact em
          · exact absurd g' hyR
   · rintro σ H4 ⟨ts,v3,v4,rfl,h4l,hl4,hx4,kb⟩;rw[ed2,rows.1,eg4] at hx4;refine ⟨_,rfl,q l ts H4 hl0 (fun b o hb=>kb b o (s23 b o (s2 b o hb)) (g7 hb hl0)) ⟨hl4,fun x hx=>hx4 x (up.all x hx.1 hx.2)⟩ h4l⟩
end
end My
namespace My
open PySem L2 Mth
section
variable {P:Program} {w:World} {K:PySem.W.Frag} {mg:Str->Option Value} {base:Heap}
structure dg5 (H:Hp)(d:Addr)(rs:List (List Int))(kvs:List (q9×V))(ns:List Int):Prop where
 at_:H d=some (.dK kvs)
 keys:KI kvs ns
 nd:ns.Nodup
 val:∀l:Nat,(l:Int)∈ns->C3 kvs (Sum.inl (l:Int):q9)=some (.int ((w6 rs l:Nat):Int))
 all:∀z:Int,z∈ns↔∃r∈rs,z=(r.length:Int)
theorem dd4 {p:List Int}(tp:E6 p){i:Nat}{rs:List (List Int)}(up:J5 p i rs):∀r∈rs,1<=r.length/\r.length<=p.length:=fun r hr=>by
 obtain ⟨y,L,hy,pr,er,_⟩:=up.ring r hr
 have b:=O1 tp hy (m:=L) fun i i0 i1=>pr.least i i0 i1
 have:=pr.pos;rw[er,x6];omega
def bf9:Sp:=fun vs H Q _=>∃(a:Addr) (p:List Int),vs=[.ref a]/\x9 H a p/\∀(d:Addr) (kvs:List (q9×V)) (ns:List Int) (H':Hp),H d=none->c6 H H'->dg5 H' d (C5 p p.length) kvs ns->(∀z∈ns,1<=z/\z<=40)->ns.length<=40->Q (.ref d) H'
theorem ai6:n5 ["p","found","one"] ["p"] (i8 al9):=by rfl'
theorem bv1 {f:Addr}{fd:FuncData}(F:B6 K "_law_counts" "_law_counts" al9 f fd)(B:Bl mg)(zrz:o4 P w K mg base "_law_rounds" 1 ["p"] ab6):m9 P w K mg base E2 2 f fd ["p"] bf9:=by
 refine F.ok ai6 (fun vs H Q E h=> ?_) (fun cdv A outer s H vs Q E hr h=> ?_)
 · obtain ⟨a,p,rfl,⟨ha,tp,lp⟩,q⟩:=h;rfl
 · obtain ⟨a,p,rfl,⟨ha,tp,lp⟩,q⟩:=h;have zj:l6 1 _:=hr.mono (by decide);have hu:=Q8 hr;refine ⟨_,@c8 _ _ _ _ _ (@i4 _ _ (1) _ _ _ _ ai6.nd rfl (Or.inl rfl) (@V0 _ _) (by rfl) (by trivial)) (@c8 _ _ _ _ _ (@q0 _ _ _ _ _ _ _ _ PassesOwn.never rfl (@B8 _ _ _ _ (@i7 _ _ _ _ _ _ _ _ _ _ zrz zj (@e8 _ _ _ (pv 0) (by rfl)) (by rfl) (by decide) (by rfl) (by rfl))) (@i9 _ _ (2) _ ai6.nd rfl (Or.inl rfl) (by trivial)) (@g6 _ _ _ (@aj8 _ _ _ _ _ _ _ _ _ hu (pv 1) (@o8 _ _ _ _ _ B.len (@e8 _ _ _ (pv 2) (by rfl)) (by rfl) (by rfl)) (@i6 _ _ _ _ _ _ _ _ C0 (@da2 _ _ _ _ _ _ _ _ _ hu (pv 1) (@o8 _ _ _ _ _ B.len (@e8 _ _ _ (pv 2) (by rfl)) (by rfl) (by rfl)) (@h8 _ _ _ _) ⟨by rfl,by rfl,by rfl,by rfl⟩) (@h8 _ _ _ _)) rfl)) (by intro _;rfl)) (@g6 _ _ _ (@j9 _ _ _ _ (pv 1)))),?_⟩
   try dsimp only[t6,Cx.nox,Cx.wish]
   intro d hd;have s1:c6 H (c9 H d (.dK [])):=c6.upd_new hd;have h1d:(c9 H d (.dK [])) d=some (.dK []):=c7;generalize (c9 H d (.dK []))=H1 at s1 h1d ⊢;refine ⟨_,rfl,a,p,rfl,⟨s1 a _ ha,tp,lp⟩,fun g as rs H3 hg s13 h3g rows up fa nda nga=> ?_⟩;have h3d:=s13 d _ h1d
   have ngd:g≠d:=fun z=>by rw[z,h1d] at hg;cases hg
   have lrs:=rows.1;have cl:=af7 up;have fl:=am3 tp up
   refine ⟨g,rfl,⟨_,g9.of h3g⟩,G4 (K:=K) (a:=g) (xs:=as.map V.ref) (fun i σ H4=>∃(kvs:List (q9×V)) (ns:List Int) (v2:Option V),σ=[some (.ref a),some (.ref d),v2]/\dg5 H4 d (rs.take i) kvs ns/\ns.length<=i/\kvs.length<=i/\j5 d H3 H4)
     ⟨[],[],none,rfl,⟨h3d,rfl,ej6,fun l hl=>by simp at hl,fun z=>⟨fun h=>by simp at h,fun ⟨r,h,_⟩=>by simp at h⟩⟩,ed5 _,ed5 _,j5.refl d H3⟩ (fun i σ H4 _ zz=>by obtain ⟨_,_,_,_,_,_,_,kb⟩:=zz;exact g9.of (kb g _ h3g ngd)) ?_ ?_⟩
   · rintro i y σ H4 hi ⟨kvs,ns,v2,rfl,ca,lns,lkv,kb⟩;rw[ed9] at hi
     cases hai:as[i]? with
     |none=>rw[hai] at hi;cases hi
     |some e=>
      rw[hai] at hi;cases hi;have hil:i < as.length:=(ed3.mp hai).1;have hri:rs[i]? =some (rs[i]'(by rw[<-rows.1];exact hil)):=ed4 _;generalize hR:rs[i]'(by rw[<-rows.1];exact hil)=R at hri;have h3e:=rows.2 i e R hai hri
      have nde:e≠d:=fun z=>by have:=fa e (ee1 hai);rw[z,h1d] at this;cases this
      have h4e:=kb e _ h3e nde;refine ⟨_,rfl,d,rfl,.inl ⟨_,.inl ca.at_⟩,_,rfl,e,_,rfl,.inl (g9.of h4e),?_⟩;rw[ed2];refine ⟨_,X1.k (k:=Sum.inl ((R.length:Nat):Int)) ca.at_,?_⟩
      have key:((C3 kvs (Sum.inl ((R.length:Nat):Int):q9)).getD (.int 0))= .int ((w6 (rs.take i) R.length:Nat):Int):=by
        by_cases hm:((R.length:Nat):Int)∈ns
        · rw[ca.val R.length hm];rfl
        · rw[bm8 ca.keys hm]
          have:w6 (rs.take i) R.length=0:=by
            by_cases z:w6 (rs.take i) R.length=0
            · exact z
            · obtain ⟨r,hr',e'⟩:=ci0 z;exact absurd ((ca.all _).mpr ⟨r,hr',by rw[e']⟩) hm
          rw[this];rfl
      rw[key];refine ⟨_,_,rfl,rfl,?_⟩;refine ⟨_,rfl,_,rfl,e,_,rfl,.inl (g9.of h4e),?_⟩;rw[ed2];refine ⟨d,_,rfl,ao4.k (k:=Sum.inl ((R.length:Nat):Int)) ca.at_ (m8 (by omega)),?_⟩
      have ec:(((w6 (rs.take i) R.length:Nat):Int)+1)=((w6 (rs.take (i+1)) R.length:Nat):Int):=by
        rw[m7 hri,br9,if_pos rfl];omega
      dsimp only
      rw[ec]
      have hval:∀l:Nat,l≠R.length->w6 (rs.take (i+1)) l=w6 (rs.take i) l:=fun l hl=>by
        rw[m7 hri,br9,if_neg (fun z=>hl z.symm)];omega
      have hall:∀z:Int,(∃r∈rs.take (i+1),z=(r.length:Int))↔(∃r∈rs.take i,z=(r.length:Int))\/z=(R.length:Int):=fun z=>by
        rw[m7 hri];constructor
        · rintro ⟨r,hr',e'⟩
          rcases ee2.mp hr' with y|y
          · exact .inl ⟨r,y,e'⟩
          · have:r=R:=by simpa using y
            rw[this] at e';exact .inr e'
        · rintro (⟨r,hr',e'⟩|e')
          · exact ⟨r,eh8 _ hr',e'⟩
          · exact ⟨R,ef1 _ (by simp),e'⟩
      have lput:=ao3 kvs (Sum.inl ((R.length:Nat):Int):q9) (V.int ((w6 (rs.take (i+1)) R.length:Nat):Int))
      by_cases hm:((R.length:Nat):Int)∈ns
      · refine ⟨_,ns,_,rfl,⟨c7,dq9 ca.keys hm _,ca.nd,fun l hl=> ?_,fun z=> ?_⟩,by omega,by omega,kb.upd_a⟩
        · rw[bx3]
          by_cases e':l=R.length
          · subst e';rw[if_pos rfl]
          · rw[if_neg (fun z=>e' (by have:=Sum.inl.inj z;omega)),ca.val l hl,hval l e']
        · rw[hall,ca.all];constructor
          · exact fun h=> .inl h
          · rintro (h|h)
            · exact h
            · rw[h];exact (ca.all _).mp hm
      · refine ⟨_,ns++[((R.length:Nat):Int)],_,rfl,⟨c7,dq8 ca.keys hm _,ak0 ca.nd hm,fun l hl=> ?_,fun z=> ?_⟩,by rw[ed6];show ns.length+1<=i+1;omega,by omega,kb.upd_a⟩
        · rw[bx3]
          by_cases e':l=R.length
          · subst e';rw[if_pos rfl]
          · rw[if_neg (fun z=>e' (by have:=Sum.inl.inj z;omega))]
            rcases ee2.mp hl with y|y
            · rw[ca.val l y,hval l e']
            · have:(l:Int)=((R.length:Nat):Int):=by simpa using y
              exact absurd (by omega) e'
        · rw[hall,ee2,ca.all];constructor
          · rintro (h|h)
            · exact .inl h
            · exact .inr (by simpa using h)
          · rintro (h|h)
            · exact .inl h
            · exact .inr (by rw[h];simp)
   · rintro σ H4 ⟨kvs,ns,v2,rfl,ca,lns,lkv,kb⟩;rw[ed2] at lns ca;rw[lrs,eg4,up.eq] at ca;refine ⟨_,rfl,q d kvs ns H4 hd (fun b o hb=>kb b o (s13 b o (s1 b o hb)) (g7 hb hd)) ca (fun z hz=> ?_) (by omega)⟩;obtain ⟨r,hr',rfl⟩:=(ca.all z).mp hz;have:=dd4 tp (bf4 tp) r hr';omega
end
end My
namespace My
open PySem L2 Mth
section
variable {P:Program} {w:World} {K:PySem.W.Frag} {mg:Str->Option Value} {base:Heap}
def K0 (xs:List Nat):List Int:=xs.map fun (d:Nat)=>(d:Int)
def B9 (l m j:Nat):List Nat:=((ei1 j).map (· +1)).filter fun d=>decide (eh9 (d*l) m=d)
theorem am6 (l m j:Nat):B9 l m (j+1)=if eh9 ((j+1)*l) m=j+1 then B9 l m j++[j+1] else B9 l m j:=by
 unfold B9;rw[eq4,ed8,ep9];show _++List.filter _ [j+1]=_
 split
 · rename_i h;rw[eo2 (p:=fun d=>decide (eh9 (d*l) m=d)) (decide_eq_true h)];rfl
 · rename_i h;rw[eo3 (p:=fun d=>decide (eh9 (d*l) m=d)) (by simpa using h),er9,eg0]
theorem Z7 (l m j:Nat):(B9 l m j).length<=j:=by
 unfold B9;refine ee6 (er0 _ _) ?_;rw[ed2,eh2];exact ed5 _
theorem K8 {l m j d:Nat}(h:d∈B9 l m j):1<=d/\d<=j:=by
 unfold B9 at h;obtain ⟨i,hi,e⟩:=ee5.mp (en8.mp h).1;have:=ei2.mp hi;omega
def aw0:Sp:=fun vs H Q _=>∃(l m j:Nat),vs=[.int (l:Int),.int (m:Int),.int (j:Int)]/\l<=1000/\j<=1000/\∀(a:Addr) (H':Hp),H a=none->c6 H H'->H' a=some (.lst ((K0 (B9 l m j)).map V.int))->Q (.ref a) H'
theorem bg0:n5 ["length","m","most"] ["length","m","most"] (i8 ad3):=by rfl'
theorem ah8:(["d","m","length"]:List Str).Nodup:=by decide+kernel
theorem bg1 {f:Addr}{fd:FuncData}(F:B6 K "right_numbers" "right_numbers" ad3 f fd)(B:Bl mg)(zmx:o4 P w K mg base "greatest_part" 1 ["a","b"] cn0):m9 P w K mg base E2 2 f fd ["length","m","most"] aw0:=by
 refine F.ok bg0 (fun vs H Q E h=> ?_) (fun cdv A outer s H vs Q E hr h=> ?_)
 · obtain ⟨l,m,j,rfl,hl,hj,q⟩:=h;rfl
 · obtain ⟨l,m,j,rfl,hl,hj,q⟩:=h;have zd:l6 1 _:=hr.mono (by decide);refine ⟨_,@g6 _ _ _ (@j9 _ _ _ _ (@aq0 _ _ _ _ _ _ _ _ _ _ _ (["d","m","length"]) (1) ([1,0]) rfl .of (@U5 _ _ _ _ _ _ _ (by rfl) B.range (@e7 _ _ _ _ _ (@h8 _ _ _ _) (@e8 _ _ _ (@i6 _ _ _ _ _ _ _ _ C0 (pv 2) (@h8 _ _ _ _)) (by rfl)) (by rfl)) (by rfl) (by rfl)) (fun _ _ _ _ _=>@i9 _ _ (0) _ ah8 rfl (Or.inl rfl) (by trivial)) (fun _ _ _ _ _=>@ak9 _ _ _ (@j6 _ _ _ _ _ _ _ _ ac3 (@i7 _ _ _ _ _ _ _ _ _ _ zmx zd (@e7 _ _ _ _ _ (@i6 _ _ _ _ _ _ _ _ V9 (pv 0) (pv 2)) (@e8 _ _ _ (pv 1) (by rfl)) (by rfl)) (by rfl) (by decide) (by rfl) (by rfl)) (pv 0) (j7 _))) (fun _ _ _ _ _=>(pv 0)) (by intro _;rfl))),?_⟩
   try dsimp only[t6,Cx.nox,Cx.wish]
   refine ⟨_,rfl,_,_,rfl,rfl,1,(j:Int)+1,rfl,⟨by decide,by decide,by omega,by omega⟩,?_⟩
   have en:((j:Int)+1 - 1).toNat=j:=by omega
   rw[en];refine bi5 (lo:=1) (n:=j) (fun i ys σ H2=>∃v:Option V,σ=[v,some (.int (m:Int)),some (.int (l:Int))]/\H2=H/\ys=(K0 (B9 l m i)).map V.int) ⟨none,rfl,rfl,by simp [B9,K0]⟩ ?_ ?_
   · rintro i ys σ H2 hi ⟨v,rfl,rfl,rfl⟩;have li:=Z7 l m i;have es:=am6 l m i
     have e1:(1:Int)+(i:Int)=((i+1:Nat):Int):=by omega
     refine ⟨_,rfl,_,rfl,_,_,rfl,rfl,.inr ⟨by omega,by omega⟩,_,rfl,(i+1)*l,m,?_,?_⟩
     · show [V.int ((1+(i:Int))*(l:Int)),V.int (m:Int)]++[]=_;rw[e1,<-eh3];rfl
     refine ⟨_,rfl,rfl,_,rfl,ac4 (fun h1=> ?_) (fun h1=> ?_)⟩
     · have d1:eh9 ((i+1)*l) m=i+1:=by
         have:=V.int.inj (of_decide_eq_true h1);omega
       refine ⟨_,rfl,m8 (by unfold K0;rw[ed2,ed2];omega),_,rfl,rfl,?_⟩;rw[es,if_pos d1];unfold K0;rw[ed8,ed8,e1];rfl
     · have d1:¬eh9 ((i+1)*l) m=i+1:=fun e=>h1 (decide_eq_true (congrArg V.int (by rw[e];omega)))
       refine ⟨_,rfl,rfl,?_⟩;rw[es,if_neg d1]
   · rintro ys σ H2 ⟨v,rfl,rfl,rfl⟩ D hD;exact q D _ hD (c6.upd_new hD) c7
def t5 (n l:Nat):Nat->Nat
 |0=>1
 |k+1=>t5 n l k*(n - (k+1))*l
def bg2:Sp:=fun vs H Q _=>∃(n d l:Nat),vs=[.int (n:Int),.int (d:Int),.int (l:Int)]/\1<=d/\d<=n/\n<=1000/\l<=1000/\Q (.int ((t5 n l (d - 1):Nat):Int)) H
theorem S0:n5 ["left","part","length","ways","taken"] ["left","part","length"] (i8 aa3):=by rfl'
theorem bc8 {f:Addr}{fd:FuncData}(F:B6 K "ways_to_follow" "ways_to_follow" aa3 f fd)(B:Bl mg):m9 P w K mg base E2 1 f fd ["left","part","length"] bg2:=by
 refine F.ok S0 (fun vs H Q E h=> ?_) (fun cdv A outer s H vs Q E hr h=> ?_)
 · obtain ⟨n,d,l,rfl,d1,dn,hn,hl,q⟩:=h;rfl
 · obtain ⟨n,d,l,rfl,d1,dn,hn,hl,q⟩:=h;refine ⟨_,@c8 _ _ _ _ _ (@i4 _ _ (3) _ _ _ _ S0.nd rfl (Or.inl rfl) (@h8 _ _ _ _) (by rfl) (by trivial)) (@c8 _ _ _ _ _ (@q0 _ _ _ _ _ _ _ _ PassesOwn.never rfl (@U5 _ _ _ _ _ _ _ (by rfl) B.range (@e7 _ _ _ _ _ (@h8 _ _ _ _) (@e8 _ _ _ (pv 1) (by rfl)) (by rfl)) (by rfl) (by rfl)) (@i9 _ _ (4) _ S0.nd rfl (Or.inl rfl) (by trivial)) (@g6 _ _ _ (@i4 _ _ (3) _ _ _ _ S0.nd rfl (Or.inl rfl) (@i6 _ _ _ _ _ _ _ _ V9 (@i6 _ _ _ _ _ _ _ _ V9 (pv 3) (@i6 _ _ _ _ _ _ _ _ Z5 (pv 0) (pv 4))) (pv 2)) (by rfl) (by trivial))) (by intro _;rfl)) (@g6 _ _ _ (@j9 _ _ _ _ (pv 3)))),?_⟩
   try dsimp only[t6,Cx.nox,Cx.wish]
   refine ⟨_,rfl,1,(d:Int),rfl,⟨by decide,by decide,by omega,by omega⟩,?_⟩
   have en:((d:Int) - 1).toNat=d - 1:=by omega
   rw[en];refine G7 (lo:=1) (n:=d - 1) (fun i σ H2=>∃v:Option V,σ=[some (.int (n:Int)),some (.int (d:Int)),some (.int (l:Int)),some (.int ((t5 n l i:Nat):Int)),v]/\H2=H) ⟨none,rfl,rfl⟩ ?_ ?_
   · rintro i σ H2 hi ⟨v,rfl,rfl⟩
     have e64:(2:Int)^64=18446744073709551616:=by decide
     refine ⟨_,rfl,_,rfl,_,rfl,_,_,rfl,rfl,_,_,rfl,rfl,.inr ⟨by rw[e64];omega,by rw[e64];omega⟩,_,rfl,_,_,rfl,rfl,.inr ⟨by rw[e64];omega,by rw[e64];omega⟩,some (.int (1+(i:Int))),?_,rfl⟩
     have e:((t5 n l i:Nat):Int)*((n:Int) - (1+(i:Int)))*(l:Int)=((t5 n l (i+1):Nat):Int):=by
       show _=((t5 n l i*(n - (i+1))*l:Nat):Int);rw[eh3,eh3]
       congr 2
       omega
     rw[<-e];rfl
   · rintro σ H2 ⟨v,rfl,rfl⟩;exact ⟨_,rfl,q⟩
def aw1 (l:Nat)(rs cs:List Nat)(n:Nat):Nat:=((rs.filter fun d=>decide (d<=n)).map fun d=>t5 n l (d - 1)*cs.getD (n - d) 0).sum
def E8 (l:Nat)(rs:List Nat):Nat->List Nat
 |0=>[1]
 |k+1=>E8 l rs k++[aw1 l rs (E8 l rs k) (k+1)]
def C9 (l m n:Nat):Nat:=(E8 l (B9 l m n) n).getD n 0
theorem R1 (l:Nat)(rs:List Nat):∀k,(E8 l rs k).length=k+1
 |0=>rfl
 |k+1=>by
  show (E8 l rs k++[_]).length=_;rw[ed6,R1 l rs k];rfl
theorem az5 {n l:Nat}(h:n*l<=1600):∀k,t5 n l k<=1600^k
 |0=>ed5 _
 |k+1=>by
  show t5 n l k*(n - (k+1))*l<=_;rw[ek9,ep6];refine el6 (az5 h k) (ee6 (ej3 _ (Nat.sub_le _ _)) h)
theorem bk6 {c:Nat}:∀{xs:List Nat},(∀x∈xs,x<=c)->xs.sum<=xs.length*c
 |[],_=>ef5 _
 |x::xs,h=>by
  have:=bk6 fun y hy=>h y (ee0 _ hy)
  have:=h x ed7;rw[ew1,eg3,ep2,ey0];omega
theorem bg3 {l:Nat}{rs:List Nat}(hl:l<=40)(hr:rs.length<=40)(h1:∀d∈rs,1<=d):∀k,k<=40->∀i,(E8 l rs k).getD i 0<=1600^i
 |0,_,0=>ed5 _
 |0,_,i+1=>ef5 _
 |k+1,hk,i=>by
  have ih:=bg3 hl hr h1 k (by omega);show (E8 l rs k++[_]).getD i 0<=_;have ln:=R1 l rs k;rw[ee4]
  by_cases z:i < k+1
  · rw[ef8 (by omega),<-ee4];exact ih i
  · rw[ef6 (by omega),ln]
    by_cases y:i=k+1
    · subst y;rw[en3];show aw1 l rs (E8 l rs k) (k+1)<=_;unfold aw1;refine ee6 (bk6 (c:=1600^k) fun x hx=> ?_) ?_
      · obtain ⟨d,hd,rfl⟩:=ee5.mp hx;obtain ⟨hd1,hd2⟩:=en8.mp hd;have d1:=h1 d hd1;have d2:d<=k+1:=of_decide_eq_true hd2;have a:=az5 (n:=k+1) (l:=l) (ee6 (el6 hk hl) (by decide)) (d - 1);have b:=ih (k+1 - d);refine ee6 (el6 a b) ?_;rw[<-ey2,show d - 1+(k+1 - d)=k by omega];exact ed5 _
      · rw[ed2,ep6,ej4 (1600^k)];refine ej3 _ ?_;have:=er0 (fun d=>decide (d<=k+1)) rs;omega
    · rw[ef0 (by show 1<=i - (k+1);omega)];exact ef5 _
theorem cj8 {xs:List Nat}{i:Int}(h0:0<=i)(h1:i < xs.length):atI ((K0 xs).map V.int) i=some (.int ((xs.getD i.toNat 0:Nat):Int)):=by
 have l:(K0 xs).length=xs.length:=ed2 ..;rw[Mth.Y3 h0 (by rw[l];exact h1)]
 congr 2
 unfold K0;rw[ee4,ee4,ed9]
 cases xs[i.toNat]? <;>rfl
theorem ds7 {xs:List Nat}{j:Nat}{x:V}(h:((K0 xs).map V.int)[j]? =some x):∃d:Nat,xs[j]? =some d/\x= .int (d:Int):=by
 unfold K0 at h;rw[ed9,ed9] at h
 cases e:xs[j]? with
 |none=>rw[e] at h;cases h
 |some d=>rw[e] at h;exact ⟨d,rfl,(Option.some.inj h).symm⟩
theorem cj9:∀xs:List Nat,(K0 xs).sum=((xs.sum:Nat):Int)
 |[]=>rfl
 |x::xs=>by
  show (x:Int)+(K0 xs).sum=_;rw[cj9 xs,ew1,ex6]
theorem bk7 (i:Nat)(h:i<=40){n:Nat}(hn:440 < n):1600^i < 2^n:=by
 have a:1600^i<=(2^11)^i:=eo5 (by decide) i;rw[<-ev2] at a;exact eg1 a (Nat.pow_lt_pow_right (by decide) (by omega))
def bp0:Sp:=fun vs H Q _=>∃(l n m:Nat),vs=[.int (l:Int),.int (n:Int),.int (m:Int)]/\l<=40/\n<=40/\∀H':Hp,c6 H H'->Q (.int ((C9 l m n:Nat):Int)) H'
theorem U1:n5 ["length","many","m","right","counts","left","ways"] ["length","many","m"] (i8 ai4):=by rfl'
theorem W6:(["part","left","length","counts"]:List Str).Nodup:=by decide+kernel
theorem bp1 {f:Addr}{fd:FuncData}(F:B6 K "count_joins" "count_joins" ai4 f fd)(B:Bl mg)(zuz:o4 P w K mg base "right_numbers" 2 ["length","m","most"] aw0)(zmz:o4 P w K mg base "ways_to_follow" 1 ["left","part","length"] bg2):m9 P w K mg base E2 3 f fd ["length","many","m"] bp0:=by
 refine F.ok U1 (fun vs H Q E h=> ?_) (fun cdv A outer s H vs Q E hr h=> ?_)
 · obtain ⟨l,n,m,rfl,hl,hn,q⟩:=h;rfl
 · obtain ⟨l,n,m,rfl,hl,hn,q⟩:=h;have zmy:l6 2 _:=hr.mono (by decide);have ze:l6 1 _:=hr.mono (by decide);refine ⟨_,@c8 _ _ _ _ _ (@i4 _ _ (3) _ _ _ _ U1.nd rfl (Or.inl rfl) (@i7 _ _ _ _ _ _ _ _ _ _ zuz zmy (@e7 _ _ _ _ _ (pv 0) (@e7 _ _ _ _ _ (pv 2) (@e8 _ _ _ (pv 1) (by rfl)) (by rfl)) (by rfl)) (by rfl) (by decide) (by rfl) (by rfl)) (by rfl) (by trivial)) (@c8 _ _ _ _ _ (@i4 _ _ (4) _ _ _ _ U1.nd rfl (Or.inr rfl) (@o5 _ _ _ _ (@e8 _ _ _ (@h8 _ _ _ _) (by rfl))) (by rfl) (by trivial)) (@c8 _ _ _ _ _ (@q0 _ _ _ _ _ _ _ _ PassesOwn.never rfl (@U5 _ _ _ _ _ _ _ (by rfl) B.range (@e7 _ _ _ _ _ (@h8 _ _ _ _) (@e8 _ _ _ (@i6 _ _ _ _ _ _ _ _ C0 (pv 1) (@h8 _ _ _ _)) (by rfl)) (by rfl)) (by rfl) (by rfl)) (@i9 _ _ (5) _ U1.nd rfl (Or.inr rfl) (by trivial)) (@c8 _ _ _ _ _ (@bm3 _ (6) _ _ _ _ _ _ _ _ _ _ _ _ _ (["part","left","length","counts"]) (1) ([5,0,4]) U1.nd rfl (Or.inl rfl) rfl .of (@B8 _ _ _ _ (pv 3)) (fun _ _ _ _ _=>@i9 _ _ (0) _ W6 rfl (Or.inl rfl) (by trivial)) (fun _ _ _ _ _=>@ak9 _ _ _ (@j6 _ _ _ _ _ _ _ _ cl2 (pv 0) (pv 1) (j7 _))) (fun _ _ _ _ _=>(@i6 _ _ _ _ _ _ _ _ Q2 (@i7 _ _ _ _ _ _ _ _ _ _ zmz ze (@e7 _ _ _ _ _ (pv 1) (@e7 _ _ _ _ _ (pv 0) (@e8 _ _ _ (pv 2) (by rfl)) (by rfl)) (by rfl)) (by rfl) (by decide) (by rfl) (by rfl)) (@N7 _ _ _ _ _ _ (dp1 K) G1 (pv 3) (@i6 _ _ _ _ _ _ _ _ Z5 (pv 1) (pv 0)) (fun _ _=>rfl)))) (by rfl) (by intro _;rfl) (by trivial)) (@g6 _ _ _ (@w9 _ _ _ _ (@B0 _ _ _ _ _ _ _ (pv 4) (@e8 _ _ _ (@dq3 _ _ _ _ _ rfl B.sum (@e8 _ _ _ (pv 6) (by rfl)) (by rfl) (by rfl)) (by rfl)) (by rfl) (by rfl) (by rfl) (by rfl) (by rfl)) (by rfl)))) (by intro _;rfl)) (@g6 _ _ _ (@j9 _ _ _ _ (@N7 _ _ _ _ _ _ _ G1 (pv 4) (pv 1) (fun _ _=>rfl)))))),?_⟩;refine av9 ?_;intros
   try dsimp only[t6,Cx.nox,Cx.wish]
   refine ⟨_,rfl,_,rfl,_,rfl,l,m,n,rfl,by omega,by omega,fun ra H1 hra s1 h1=> ?_⟩;obtain ⟨rs,ers⟩:∃rs,rs=B9 l m n:=⟨_,rfl⟩;rw[<-ers] at h1;refine ⟨(show 1<=sizeLine by decide),fun cs hcs=> ?_⟩;have s2:c6 H1 (c9 H1 cs (.lst [V.int 1])):=c6.upd_new hcs;have h2:(c9 H1 cs (.lst [V.int 1])) cs=some (.lst ((K0 (E8 l rs 0)).map V.int)):=c7;have h2r:=s2 _ _ h1;have nrc:ra≠cs:=g7 h1 hcs;generalize (c9 H1 cs (.lst [V.int 1]))=H2 at s2 h2 h2r ⊢;refine ⟨_,rfl,_,_,rfl,rfl,1,(n:Int)+1,rfl,⟨by decide,by decide,by omega,by omega⟩,?_⟩
   have en:((n:Int)+1 - 1).toNat=n:=by omega
   rw[en];refine G7 (lo:=1) (n:=n) (fun i σ H3=>∃v w:Option V,σ=[some (.int (l:Int)),some (.int (n:Int)),some (.int (m:Int)),some (.ref ra),some (.ref cs),v,w]/\H3 cs=some (.lst ((K0 (E8 l rs i)).map V.int))/\j5 cs H2 H3) ⟨none,none,rfl,h2,j5.refl cs H2⟩ ?_ ?_
   · rintro i σ H3 hi ⟨v,w,rfl,h3,kb3⟩;have h3r:=kb3 _ _ h2r nrc
     have lrs:rs.length<=40:=by rw[ers];exact ee6 (Z7 l m n) hn
     have prs:∀d∈rs,1<=d:=fun d hd=>by rw[ers] at hd;exact (K8 hd).1
     have e1:(1:Int)+(i:Int)=((i+1:Nat):Int):=by omega
     rw[e1]
     refine ⟨_,rfl,ra,rfl,⟨_,g9.of h3r⟩,ah4 (K:=K) (a:=ra) (xs:=(K0 rs).map V.int) (fun j ys σ H4=>∃u:Option V,σ=[u,some (.int ((i+1:Nat):Int)),some (.int (l:Int)),some (.ref cs)]/\H4=H3/\ys=(K0 (((rs.take j).filter fun d=>decide (d<=i+1)).map fun d=>t5 (i+1) l (d - 1)*(E8 l rs i).getD (i+1 - d) 0)).map V.int)
       ⟨none,rfl,rfl,by simp [K0]⟩ (fun j ys σ H4 _ zz=>by obtain ⟨_,_,e,_⟩:=zz;rw[e];exact g9.of h3r) ?_ ?_⟩
     · rintro j x ys σ H4 hj ⟨u,rfl,rfl,rfl⟩;obtain ⟨d,hd,rfl⟩:=ds7 hj;have d1:=prs d (ee1 hd);have jl:j < rs.length:=(ed3.mp hd).1;refine ⟨_,rfl,_,rfl,_,_,rfl,rfl,_,rfl,ac4 (fun h1=> ?_) (fun h1=> ?_)⟩
       · have dn:d<=i+1:=by
           have:=of_decide_eq_true h1;omega
         refine ⟨_,rfl,_,rfl,_,rfl,i+1,d,l,rfl,d1,dn,by omega,by omega,_,rfl,_,rfl,_,rfl,_,_,rfl,rfl,cs,_,_,_,rfl,rfl,g9.of h3,cj8 (xs:=E8 l rs i) (by omega) (by rw[R1];omega),_,_,rfl,rfl,⟨?_,?_⟩,?_⟩
         · rw[el1];exact eg1 (az5 (ee6 (el6 (show i+1<=40 by omega) hl) (by decide)) _) (bk7 (d - 1) (by omega) (by decide))
         · rw[el1];exact eg1 (bg3 hl lrs prs i (by omega) _) (bk7 _ (by omega) (by decide))
         · have lj:((rs.take j).filter fun d=>decide (d<=i+1)).length<=40:=ee6 (er0 _ _) (by rw[ee9];omega);refine ⟨m8 (by unfold K0;rw[ed2,ed2,ed2];omega),_,rfl,rfl,?_⟩;rw[m7 hd,ep9,eo2 (p:=fun d=>decide (d<=i+1)) (decide_eq_true dn),er9];unfold K0;rw[ed8,ed8,ed8]
           congr 1
           have ed:((((i+1:Nat):Int)) - (d:Int)).toNat=i+1 - d:=by omega
           show [V.int (((t5 (i+1) l (d - 1):Nat):Int)*(((E8 l rs i).getD ((((i+1:Nat):Int)) - (d:Int)).toNat 0:Nat):Int))]=[V.int ((t5 (i+1) l (d - 1)*(E8 l rs i).getD (i+1 - d) 0:Nat):Int)];rw[ed,eh3]
       · have dn:¬d<=i+1:=fun z=>h1 (decide_eq_true (by omega))
         refine ⟨_,rfl,rfl,?_⟩;rw[m7 hd,ep9,eo3 (p:=fun d=>decide (d<=i+1)) (by simpa using dn),er9,eg0]
     · rintro ys σ H4 ⟨u,rfl,rfl,rfl⟩ D hD
       have ll:((K0 rs).map V.int).length=rs.length:=by unfold K0;rw[ed2,ed2]
       rw[ll,eg4]
       obtain ⟨ws,ews⟩:∃ws,ws=(rs.filter fun d=>decide (d<=i+1)).map fun d=>t5 (i+1) l (d - 1)*(E8 l rs i).getD (i+1 - d) 0:=⟨_,rfl⟩
       rw[<-ews];have s5:c6 H4 (c9 H4 D (.lst ((K0 ws).map V.int))):=c6.upd_new hD;have h5:(c9 H4 D (.lst ((K0 ws).map V.int))) D=some (.lst ((K0 ws).map V.int)):=c7;generalize (c9 H4 D (.lst ((K0 ws).map V.int)))=H5 at s5 h5 ⊢;have h5c:=s5 _ _ h3;refine ⟨_,rfl,.inl ⟨rfl,_,g9.of h5c⟩,_,rfl,D,_,rfl,g9.of h5,cs,_,_,rfl,rfl,h5c,m8 (by unfold K0;rw[ed2,ed2,R1];omega),?_⟩;refine ⟨_,_,rfl,?_,fun x o hx hn=>by rw[g8 hn];exact s5 x o (kb3 x o hx hn)⟩;rw[c7,cj9,ews];show some (HO.lst (_++[V.int ((aw1 l rs (E8 l rs i) (i+1):Nat):Int)]))=some (HO.lst ((K0 (E8 l rs i++[aw1 l rs (E8 l rs i) (i+1)])).map V.int));unfold K0;rw[ed8,ed8];rfl
   · rintro σ H3 ⟨v,w,rfl,h3,kb3⟩;have s3:c6 H H3:=(s1.trans s2).kb kb3 (s1.free hcs);refine ⟨_,rfl,_,rfl,cs,_,_,_,rfl,rfl,g9.of h3,cj8 (xs:=E8 l rs n) (by omega) (by rw[R1];omega),?_⟩;rw[ej1,ers];exact q H3 s3
theorem ao1 {l m n:Nat}(hl:l<=40)(hn:n<=40):C9 l m n<=1600^40:=
 ee6 (bg3 hl (ee6 (Z7 l m n) hn) (fun _ hd=>(K8 hd).1) n hn n) (ek4 (by decide) hn)
theorem bg4 {f:Nat->Nat}{c:Nat}:∀{ks:List Nat},(∀k∈ks,f k<=c)->x8 f ks<=c^ks.length
 |[],_=>ed5 _
 |k::ks,h=>by
  show f k*x8 f ks<=c^(ks.length+1);rw[ep6,ej4];exact el6 (bg4 fun x hx=>h x (ee0 _ hx)) (h k ed7)
theorem ck0 (i:Nat)(h:i<=40){n:Nat}(hn:17600 < n):(1600^40)^i < 2^n:=by
 rw[<-ev2];have a:1600^(40*i)<=(2^11)^(40*i):=eo5 (by decide) _;rw[<-ev2] at a;exact eg1 a (Nat.pow_lt_pow_right (by decide) (by omega))
theorem az6 {p:List Int}(t:E6 p){rs:List (List Int)}(up:J5 p p.length rs){ks:List Nat}(nk:ks.Nodup)(h1:∀k∈ks,∃r∈rs,r.length=k)(h2:∀r∈rs,r.length∈ks){f:Nat->Nat}(hf:∀u,w6 rs u=0->f u=1):
   x8 f ks=x8 f ((ei1 p.length).map (· +1)):=by
 refine br8 nk ?_ (fun k hk=> ?_) fun u hu hn=> ?_
 · exact List.Pairwise.map (fun x:Nat=>x+1) (fun a b h=>by omega) (List.nodup_range (n:=p.length))
 · obtain ⟨r,hr,rfl⟩:=h1 k hk;obtain ⟨y,L,hy,pr,er,_⟩:=up.ring r hr
   have b:=O1 t hy (m:=L) fun i i0 i1=>pr.least i i0 i1
   have:=pr.pos;rw[er,x6];exact ee5.mpr ⟨L - 1,ei2.mpr (by omega),by omega⟩
 · refine hf u ?_
   by_cases z:w6 rs u=0
   · exact z
   · obtain ⟨r,hr,rfl⟩:=ci0 z;exact absurd (h2 r hr) hn
noncomputable def K5 (p:List Int)(m:Nat):Nat:=x8 (fun l=>C9 l m (w6 (C5 p p.length) l)) ((ei1 p.length).map (· +1))
def ah9:Sp:=fun vs H Q _=>∃(a:Addr) (p:List Int) (m:Nat),vs=[.ref a,.int (m:Int)]/\x9 H a p/\1<=m/\∀H':Hp,c6 H H'->Q (.int ((K5 p m:Nat):Int)) H'
theorem L9:n5 ["p","m","by_length","many","length"] ["p","m"] (i8 V4):=by rfl'
theorem ai9 {f:Addr}{fd:FuncData}(F:B6 K "how_many_roots" "how_many_roots" V4 f fd)(B:Bl mg)(zvx:o4 P w K mg base "must_be_turn" 3 ["thing"] aq9)(zwx:o4 P w K mg base "must_be_from_one" 2 ["number"] bc2)(zvz:o4 P w K mg base "sort_by_length" 1 ["rings"] bc3)(zt:o4 P w K mg base "walk_rings" 2 ["p"] ab6)(zny:o4 P w K mg base "count_joins" 3 ["length","many","m"] bp0):m9 P w K mg base E2 4 f fd ["p","m"] ah9:=by
 refine F.ok L9 (fun vs H Q E h=> ?_) (fun cdv A outer s H vs Q E hr h=> ?_)
 · obtain ⟨a,p,m,rfl,⟨ha,tp,lp⟩,m1,q⟩:=h;rfl
 · obtain ⟨a,p,m,rfl,⟨ha,tp,lp⟩,m1,q⟩:=h;have zty:l6 3 _:=hr.mono (by decide);have zuy:l6 2 _:=hr.mono (by decide);have zo:l6 1 _:=hr.mono (by decide);have zjz:l6 2 _:=hr.mono (by decide);have zbz:l6 3 _:=hr.mono (by decide);have hu:=Q8 hr;refine ⟨_,@c8 _ _ _ _ _ (@w9 _ _ _ _ (@i7 _ _ _ _ _ _ _ _ _ _ zvx zty (@e8 _ _ _ (pv 0) (by rfl)) (by rfl) (by decide) (by rfl) (by rfl)) (by rfl)) (@c8 _ _ _ _ _ (@w9 _ _ _ _ (@i7 _ _ _ _ _ _ _ _ _ _ zwx zuy (@e8 _ _ _ (pv 1) (by rfl)) (by rfl) (by decide) (by rfl) (by rfl)) (by rfl)) (@c8 _ _ _ _ _ (@i4 _ _ (2) _ _ _ _ L9.nd rfl (Or.inl rfl) (@i7 _ _ _ _ _ _ _ _ _ _ zvz zo (@e8 _ _ _ (@i7 _ _ _ _ _ _ _ _ _ _ zt zjz (@e8 _ _ _ (pv 0) (by rfl)) (by rfl) (by decide) (by rfl) (by rfl)) (by rfl)) (by rfl) (by decide) (by rfl) (by rfl)) (by rfl) (by trivial)) (@c8 _ _ _ _ _ (@i4 _ _ (3) _ _ _ _ L9.nd rfl (Or.inl rfl) (@h8 _ _ _ _) (by rfl) (by trivial)) (@c8 _ _ _ _ _ (@q0 _ _ _ _ _ _ _ _ PassesOwn.never rfl (@bm5 _ _ _ _ (pv 2)) (@i9 _ _ (4) _ L9.nd rfl (Or.inl rfl) (by trivial)) (@g6 _ _ _ (@i4 _ _ (3) _ _ _ _ L9.nd rfl (Or.inl rfl) (@i6 _ _ _ _ _ _ _ _ Q2 (pv 3) (@i7 _ _ _ _ _ _ _ _ _ _ zny zbz (@e7 _ _ _ _ _ (pv 4) (@e7 _ _ _ _ _ (@o8 _ _ _ _ _ B.len (@e8 _ _ _ (@ap9 _ _ _ _ _ _ hu (pv 2) (pv 4) (fun _ _=>rfl)) (by rfl)) (by rfl) (by rfl)) (@e8 _ _ _ (pv 1) (by rfl)) (by rfl)) (by rfl)) (by rfl) (by decide) (by rfl) (by rfl))) (by rfl) (by trivial))) (by intro _;rfl)) (@g6 _ _ _ (@j9 _ _ _ _ (pv 3))))))),?_⟩;refine dg3 ?_;intros
   try dsimp only[t6,Cx.nox,Cx.wish]
   refine ⟨_,rfl,a,p,rfl,⟨ha,tp,lp⟩,fun H1 s1=> ?_⟩;refine ⟨_,rfl,(m:Int),rfl,by omega,?_⟩;refine ⟨_,rfl,a,p,rfl,⟨s1 a _ ha,tp,lp⟩,fun l as rs H2 hl s12 h2l rows up fa nda nla=> ?_⟩;have cl:=af7 up;have fl:=am3 tp up;refine ⟨l,as,rs,rfl,h2l,rows,by omega,fun d es H3 hd s23 h3d bl les fre=> ?_⟩;have s03:=(s1.trans s12).trans s23;have hd0:H d=none:=(s1.trans s12).free hd;refine ⟨_,rfl,d,C2 es,rfl,h3d,fun o=> ?_⟩;have s4:c6 H (c9 H3 d (.frz o (.dK (C2 es)))):=s03.upd_r hd0;have h4d:(c9 H3 d (.frz o (.dK (C2 es)))) d=some (.frz o (.dK (C2 es))):=c7
   have kp:∀c,c≠d->(c9 H3 d (.frz o (.dK (C2 es)))) c=H3 c:=fun c hc=>g8 hc
   generalize (c9 H3 d (.frz o (.dK (C2 es))))=H4 at s4 h4d kp ⊢
   have lkv:(C2 es).length=es.length:=by unfold C2;rw[ed2]
   have fb:∀e∈es,e.1<=40/\w6 rs e.1<=40:=fun e he=>by
     obtain ⟨r,hr',lr⟩:=bl.key e.1 (ee5.mpr ⟨e,he,rfl⟩);obtain ⟨y,L,hy,pr,er,_⟩:=up.ring r hr'
     have b:=O1 tp hy (m:=L) fun i i0 i1=>pr.least i i0 i1
     rw[er,x6] at lr;have:w6 rs e.1<=rs.length:=List.countP_le_length;exact ⟨by omega,by omega⟩
   refine au1 (fun i σ H5=>∃(v:Option V),σ=[some (.ref a),some (.int (m:Int)),some (.ref d),some (.int ((x8 (fun l=>C9 l m (w6 rs l)) ((es.take i).map (·.1)):Nat):Int)),v]/\c6 H4 H5)
     ⟨none,rfl,c6.refl H4⟩ (fun i σ H5 _ ⟨_,_,e⟩=>e _ _ h4d) ?_ ?_
   · rintro i k v σ H5 hi ⟨v4,rfl,s5⟩;unfold C2 at hi;rw[ed9] at hi
     cases hE:es[i]? with
     |none=>rw[hE] at hi;cases hi
     |some e=>
      rw[hE] at hi;cases hi;have he:=ee1 hE;have il:i < es.length:=(ed3.mp hE).1;obtain ⟨cs,hcs,rcs⟩:=bl.row e he;obtain ⟨le40,lc40⟩:=fb e he
      have lcs:cs.length=w6 rs e.1:=by
        rw[rcs.1];unfold O4 w6;exact (eu2 ..).symm
      have h5x:H5 e.2=some (.lst (cs.map V.ref)):=s5 _ _ (by rw[kp _ (bl.nd e he)];exact hcs)
      have pb:x8 (fun l=>C9 l m (w6 rs l)) ((es.take i).map (·.1))<=(1600^40)^i:=by
        have:=bg4 (f:=fun l=>C9 l m (w6 rs l)) (c:=1600^40) (ks:=(es.take i).map (·.1)) fun k hk=>by
          obtain ⟨e1,he1,rfl⟩:=ee5.mp hk;obtain ⟨b1,b2⟩:=fb e1 (ei4 he1);exact ao1 b1 b2
        rw[ed2,ee9,et8 (by omega)] at this;exact this
      obtain ⟨F0,hF0⟩:∃F0,F0=x8 (fun l=>C9 l m (w6 rs l)) ((es.take i).map (·.1)):=⟨_,rfl⟩;rw[<-hF0] at pb ⊢;refine ⟨_,rfl,_,rfl,_,rfl,_,rfl,d,.ref e.2,rfl,.inl ⟨C2 es,Sum.inl (e.1:Int),.inr ⟨o,s5 _ _ h4d⟩,rfl,(cw4 bl.nk he).symm⟩,e.2,_,rfl,.inl (g9.of h5x),_,rfl,e.1,cs.length,m,?_,le40,by omega,fun H6 s6=> ?_⟩
      · show [V.int (e.1:Int),V.int (((cs.map V.ref).length:Nat):Int),V.int (m:Int)]++[]=_;rw[ed2];rfl
      refine ⟨_,_,rfl,rfl,⟨?_,?_⟩,some (.int (e.1:Int)),?_,s5.trans s6⟩
      · rw[el1];exact eg1 pb (ck0 i (by omega) (by decide))
      · rw[el1];exact eg1 (ao1 le40 (by omega)) (bk7 40 (ed5 _) (by decide))
      · rw[m7 hE,ed8,show ([e].map (·.1):List Nat)=[e.1] from rfl,au2,<-hF0,<-lcs,eh3];rfl
   · rintro σ H5 ⟨v,rfl,s5⟩;rw[lkv,eg4,az6 tp up bl.nk bl.key bl.all (f:=fun l=>C9 l m (w6 rs l)) fun u hu=>by show C9 u m (w6 rs u)=1;rw[hu];rfl];have er:rs=C5 p p.length:=up.eq;rw[er];exact ⟨_,rfl,q _ (s4.trans s5)⟩
end
end My
namespace My
open PySem L2 Mth
section
variable {P:Program} {w:World} {K:PySem.W.Frag} {mg:Str->Option Value} {base:Heap} {zxx zzx zyy zy zzz zyz zzy zyx zx zxz zxy:Addr}
def az7 (zzx zyy zy zzz zyz zzy zyx zx zxz zxy:Addr):Sp:=fun vs H Q _=>∃(a:Addr) (n:Str) (C:Addr),vs=[.ref a]/\H a=some (bz2 a C)/\(n,C)∈[(("NoTurn":Str),zzx),("NoFit",zyy),("NoRounds",zy),("NoNumber",zzz),("NoRoot",zyz),("TooMany",zzy),("NoKind",zyx),("NoText",zx),("NoName",zxz),("NoRow",zxy)]/\∀H',c6 H H'->Q (.str n) H'
theorem dl1 {zzx zyy zy zzz zyz zzy zyx zx zxz zxy:Addr}{n:Str}{C:Addr}(hn:(n,C)∈[(("NoTurn":Str),zzx),("NoFit",zyy),("NoRounds",zy),("NoNumber",zzz),("NoRoot",zyz),("TooMany",zzy),("NoKind",zyx),("NoText",zx),("NoName",zxz),("NoRow",zxy)]){ks:List V}
   (hk:ks=[.bl (decide (n="NoTurn")),.bl (decide (n="NoNumber")),.bl (decide (n="NoFit")),.bl (decide (n="TooMany")),.bl (decide (n="NoRoot")),.bl (decide (n="NoRounds")),.bl (decide (n="NoKind")),.bl (decide (n="NoText")),.bl (decide (n="NoName")),.bl (decide (n="NoRow"))]):
   ks.length=10/\ks.all W7=true/\ks.countP (fun i=>eqV i (.bl true))=1/\∃j:Nat,j < 10/\(["NoTurn","NoNumber","NoFit","TooMany","NoRoot","NoRounds","NoKind","NoText","NoName","NoRow"]:List Str)[j]? =some n/\ks[j]? =some (.bl true)/\∀i,i < j->ks[i]? =some (.bl false):=by
 subst hk;simp only[ee8,Prod.mk.injEq,et4,or_false] at hn
 rcases hn with ⟨rfl,_⟩|⟨rfl,_⟩|⟨rfl,_⟩|⟨rfl,_⟩|⟨rfl,_⟩|⟨rfl,_⟩|⟨rfl,_⟩|⟨rfl,_⟩|⟨rfl,_⟩|⟨rfl,_⟩
 · exact ⟨rfl,by decide+kernel,by decide+kernel,0,by decide+kernel,by decide+kernel,by decide+kernel,by decide+kernel⟩
 · exact ⟨rfl,by decide+kernel,by decide+kernel,2,by decide+kernel,by decide+kernel,by decide+kernel,by decide+kernel⟩
 · exact ⟨rfl,by decide+kernel,by decide+kernel,5,by decide+kernel,by decide+kernel,by decide+kernel,by decide+kernel⟩
 · exact ⟨rfl,by decide+kernel,by decide+kernel,1,by decide+kernel,by decide+kernel,by decide+kernel,by decide+kernel⟩
 · exact ⟨rfl,by decide+kernel,by decide+kernel,4,by decide+kernel,by decide+kernel,by decide+kernel,by decide+kernel⟩
 · exact ⟨rfl,by decide+kernel,by decide+kernel,3,by decide+kernel,by decide+kernel,by decide+kernel,by decide+kernel⟩
 · exact ⟨rfl,by decide+kernel,by decide+kernel,6,by decide+kernel,by decide+kernel,by decide+kernel,by decide+kernel⟩
 · exact ⟨rfl,by decide+kernel,by decide+kernel,7,by decide+kernel,by decide+kernel,by decide+kernel,by decide+kernel⟩
 · exact ⟨rfl,by decide+kernel,by decide+kernel,8,by decide+kernel,by decide+kernel,by decide+kernel,by decide+kernel⟩
 · exact ⟨rfl,by decide+kernel,by decide+kernel,9,by decide+kernel,by decide+kernel,by decide+kernel,by decide+kernel⟩
theorem Z8:n5 ["caught","kinds","words"] ["caught"] (i8 av6):=by rfl'
theorem cg0 {f:Addr}{fd:FuncData}(F:B6 K "_law_word" "_law_word" av6 f fd)(B:Bl mg)(ER:aq3 K mg zxx [("NoTurn",zzx),("NoFit",zyy),("NoRounds",zy),("NoNumber",zzz),("NoRoot",zyz),("TooMany",zzy),("NoKind",zyx),("NoText",zx),("NoName",zxz),("NoRow",zxy)]):m9 P w K mg base E2 1 f fd ["caught"] (az7 zzx zyy zy zzz zyz zzy zyx zx zxz zxy):=by
 refine F.ok Z8 (fun vs H Q E h=> ?_) (fun cdv A outer s H vs Q E hr h=> ?_)
 · obtain ⟨a,n,C,rfl,hH,hn,q⟩:=h;rfl
 · obtain ⟨a,n,C,rfl,hH,hn,q⟩:=h;refine ⟨_,@c8 _ _ _ _ _ (@i4 _ _ (1) _ _ _ _ Z8.nd rfl (Or.inl rfl) (@o5 _ _ _ _ (@e7 _ _ _ _ _ (@T0 _ _ _ _ _ _ B.isi (@e7 _ _ _ _ _ (pv 0) (@e8 _ _ _ (@N6 _ _ (.ref zzx) _ _ (by rfl) (ER.err ("NoTurn",zzx) (by simp)).mg rfl (by decide)) (by rfl)) (by rfl)) (by rfl) (by rfl) (by rfl)) (@e7 _ _ _ _ _ (@T0 _ _ _ _ _ _ B.isi (@e7 _ _ _ _ _ (pv 0) (@e8 _ _ _ (@N6 _ _ (.ref zzz) _ _ (by rfl) (ER.err ("NoNumber",zzz) (by simp)).mg rfl (by decide)) (by rfl)) (by rfl)) (by rfl) (by rfl) (by rfl)) (@e8 _ _ _ (@T0 _ _ _ _ _ _ B.isi (@e7 _ _ _ _ _ (pv 0) (@e8 _ _ _ (@N6 _ _ (.ref zyy) _ _ (by rfl) (ER.err ("NoFit",zyy) (by simp)).mg rfl (by decide)) (by rfl)) (by rfl)) (by rfl) (by rfl) (by rfl)) (by rfl)) (by rfl)) (by rfl))) (by rfl) (by trivial)) (@c8 _ _ _ _ _ (@i4 _ _ (1) _ _ _ _ Z8.nd rfl (Or.inl rfl) (@i6 _ _ _ _ _ _ _ _ Q7 (pv 1) (@o5 _ _ _ _ (@e7 _ _ _ _ _ (@T0 _ _ _ _ _ _ B.isi (@e7 _ _ _ _ _ (pv 0) (@e8 _ _ _ (@N6 _ _ (.ref zzy) _ _ (by rfl) (ER.err ("TooMany",zzy) (by simp)).mg rfl (by decide)) (by rfl)) (by rfl)) (by rfl) (by rfl) (by rfl)) (@e7 _ _ _ _ _ (@T0 _ _ _ _ _ _ B.isi (@e7 _ _ _ _ _ (pv 0) (@e8 _ _ _ (@N6 _ _ (.ref zyz) _ _ (by rfl) (ER.err ("NoRoot",zyz) (by simp)).mg rfl (by decide)) (by rfl)) (by rfl)) (by rfl) (by rfl) (by rfl)) (@e8 _ _ _ (@T0 _ _ _ _ _ _ B.isi (@e7 _ _ _ _ _ (pv 0) (@e8 _ _ _ (@N6 _ _ (.ref zy) _ _ (by rfl) (ER.err ("NoRounds",zy) (by simp)).mg rfl (by decide)) (by rfl)) (by rfl)) (by rfl) (by rfl) (by rfl)) (by rfl)) (by rfl)) (by rfl)))) (by rfl) (by trivial)) (@c8 _ _ _ _ _ (@i4 _ _ (1) _ _ _ _ Z8.nd rfl (Or.inl rfl) (@i6 _ _ _ _ _ _ _ _ Q7 (pv 1) (@o5 _ _ _ _ (@e7 _ _ _ _ _ (@T0 _ _ _ _ _ _ B.isi (@e7 _ _ _ _ _ (pv 0) (@e8 _ _ _ (@N6 _ _ (.ref zyx) _ _ (by rfl) (ER.err ("NoKind",zyx) (by simp)).mg rfl (by decide)) (by rfl)) (by rfl)) (by rfl) (by rfl) (by rfl)) (@e7 _ _ _ _ _ (@T0 _ _ _ _ _ _ B.isi (@e7 _ _ _ _ _ (pv 0) (@e8 _ _ _ (@N6 _ _ (.ref zx) _ _ (by rfl) (ER.err ("NoText",zx) (by simp)).mg rfl (by decide)) (by rfl)) (by rfl)) (by rfl) (by rfl) (by rfl)) (@e8 _ _ _ (@T0 _ _ _ _ _ _ B.isi (@e7 _ _ _ _ _ (pv 0) (@e8 _ _ _ (@N6 _ _ (.ref zxz) _ _ (by rfl) (ER.err ("NoName",zxz) (by simp)).mg rfl (by decide)) (by rfl)) (by rfl)) (by rfl) (by rfl) (by rfl)) (by rfl)) (by rfl)) (by rfl)))) (by rfl) (by trivial)) (@c8 _ _ _ _ _ (@w9 _ _ _ _ (@B0 _ _ _ _ _ _ _ (pv 1) (@e8 _ _ _ (@T0 _ _ _ _ _ _ B.isi (@e7 _ _ _ _ _ (pv 0) (@e8 _ _ _ (@N6 _ _ (.ref zxy) _ _ (by rfl) (ER.err ("NoRow",zxy) (by simp)).mg rfl (by decide)) (by rfl)) (by rfl)) (by rfl) (by rfl) (by rfl)) (by rfl)) (by rfl) (by rfl) (by rfl) (by rfl) (by rfl)) (by rfl)) (@ct5 _ _ _ _ _ (@y8 _ _ _ _ _ _ _ _ (@O0 _ _ _ _ _ _ _ (@j6 _ _ _ _ _ _ _ _ R9 (@cu2 _ K _ _ _ _ _ _ (pv 1) (@e8 _ _ _ (@K2 _ _ _ _) (by rfl)) (by rfl) (by rfl) (by rfl) (by rfl) (by rfl) (by rfl)) (@h8 _ _ _ _) (j7 _)) (@S1 _ _ _ _ (@V8 _ _ _ _ (@V7 _ _ _ (@T0 _ _ _ _ _ _ B.isi (@e7 _ _ _ _ _ (pv 0) (@e8 _ _ _ (@di9 _ _ B.ve (by rfl)) (by rfl)) (by rfl)) (by rfl) (by rfl) (by rfl)) (by intro _;rfl))))).pt (@g6 _ _ _ (@j9 _ _ _ _ (@G3 _ _ _ _))) (@o7 _)) (@ci2 _ _ _ _ _ (@dj3 _ (2) _ _ _ _ _ ["NoTurn","NoNumber","NoFit","TooMany","NoRoot","NoRounds","NoKind","NoText","NoName","NoRow"] (by decide+kernel) Z8.nd rfl (Or.inl rfl) (by rfl) (by trivial)) (@g6 _ _ _ (@j9 _ _ _ _ (@N7 _ _ _ _ _ _ _ G1 (pv 2) (@cu3 _ K _ _ _ _ _ _ (pv 1) (@e8 _ _ _ (@K2 _ _ _ _) (by rfl)) (by rfl) (by rfl) (by rfl) (by rfl) (by rfl) (by rfl)) (fun _ _=>rfl))))))))),?_⟩
   refine dg4 ?_;intros
   try dsimp only[t6,Cx.nox,Cx.wish]
   have IC:=ER.inst (n,C) hn;have p0:=ER.pair (n,C) hn ("NoTurn",zzx) (by simp);have p1:=ER.pair (n,C) hn ("NoNumber",zzz) (by simp);have p2:=ER.pair (n,C) hn ("NoFit",zyy) (by simp);have p3:=ER.pair (n,C) hn ("TooMany",zzy) (by simp);have p4:=ER.pair (n,C) hn ("NoRoot",zyz) (by simp);have p5:=ER.pair (n,C) hn ("NoRounds",zy) (by simp);have p6:=ER.pair (n,C) hn ("NoKind",zyx) (by simp);have p7:=ER.pair (n,C) hn ("NoText",zx) (by simp);have p8:=ER.pair (n,C) hn ("NoName",zxz) (by simp);have p9:=ER.pair (n,C) hn ("NoRow",zxy) (by simp);obtain ⟨k0,hk0⟩:∃b,b=decide (n="NoTurn"):=⟨_,rfl⟩;obtain ⟨k1,hk1⟩:∃b,b=decide (n="NoNumber"):=⟨_,rfl⟩;obtain ⟨k2,hk2⟩:∃b,b=decide (n="NoFit"):=⟨_,rfl⟩;obtain ⟨k3,hk3⟩:∃b,b=decide (n="TooMany"):=⟨_,rfl⟩;obtain ⟨k4,hk4⟩:∃b,b=decide (n="NoRoot"):=⟨_,rfl⟩;obtain ⟨k5,hk5⟩:∃b,b=decide (n="NoRounds"):=⟨_,rfl⟩;obtain ⟨k6,hk6⟩:∃b,b=decide (n="NoKind"):=⟨_,rfl⟩;obtain ⟨k7,hk7⟩:∃b,b=decide (n="NoText"):=⟨_,rfl⟩;obtain ⟨k8,hk8⟩:∃b,b=decide (n="NoName"):=⟨_,rfl⟩;obtain ⟨k9,hk9⟩:∃b,b=decide (n="NoRow"):=⟨_,rfl⟩
   replace p0:=p0.trans (congrArg some hk0.symm)
   replace p1:=p1.trans (congrArg some hk1.symm)
   replace p2:=p2.trans (congrArg some hk2.symm)
   replace p3:=p3.trans (congrArg some hk3.symm)
   replace p4:=p4.trans (congrArg some hk4.symm)
   replace p5:=p5.trans (congrArg some hk5.symm)
   replace p6:=p6.trans (congrArg some hk6.symm)
   replace p7:=p7.trans (congrArg some hk7.symm)
   replace p8:=p8.trans (congrArg some hk8.symm)
   replace p9:=p9.trans (congrArg some hk9.symm)
   refine ⟨_,rfl,a,C,_,_,_,rfl,.inl ⟨_,rfl,rfl⟩,hH,IC,p0,_,rfl,a,C,_,_,_,rfl,.inl ⟨_,rfl,rfl⟩,hH,IC,p1,_,rfl,a,C,_,_,_,rfl,.inl ⟨_,rfl,rfl⟩,hH,IC,p2,(show 3<=sizeLine by decide),fun l1 h1=> ?_⟩;obtain ⟨H1,eH1⟩:∃Hn,Hn=c9 H l1 (.lst [V.bl (k0),V.bl (k1),V.bl (k2)]):=⟨_,rfl⟩;have sH1:c6 H H1:=eH1▸c6.upd_new h1
   have gH1:H1 l1=some (.lst [V.bl (k0),V.bl (k1),V.bl (k2)]):=by rw[eH1];exact c7
   refine eH1▸(?_:t9 _ _ _ _ H1);have a1:=sH1 a _ hH;refine ⟨_,rfl,_,rfl,a,C,_,_,_,rfl,.inl ⟨_,rfl,rfl⟩,a1,IC,p3,_,rfl,a,C,_,_,_,rfl,.inl ⟨_,rfl,rfl⟩,a1,IC,p4,_,rfl,a,C,_,_,_,rfl,.inl ⟨_,rfl,rfl⟩,a1,IC,p5,(show 3<=sizeLine by decide),fun l2 h2=> ?_⟩;obtain ⟨H2,eH2⟩:∃Hn,Hn=c9 H1 l2 (.lst [V.bl (k3),V.bl (k4),V.bl (k5)]):=⟨_,rfl⟩;have sH2:c6 H1 H2:=eH2▸c6.upd_new h2
   have gH2:H2 l2=some (.lst [V.bl (k3),V.bl (k4),V.bl (k5)]):=by rw[eH2];exact c7
   refine ⟨l1,l2,[V.bl (k0),V.bl (k1),V.bl (k2)],[V.bl (k3),V.bl (k4),V.bl (k5)],rfl,rfl,c6.upd_new h2 _ _ gH1,c7,(show 6<=sizeLine by decide),fun l3 h3=> ?_⟩;have h3:H2 l3=none:=eH2▸h3;obtain ⟨H3,eH3⟩:∃Hn,Hn=c9 H2 l3 (.lst [V.bl (k0),V.bl (k1),V.bl (k2),V.bl (k3),V.bl (k4),V.bl (k5)]):=⟨_,rfl⟩;have sH3:c6 H2 H3:=eH3▸c6.upd_new h3
   have gH3:H3 l3=some (.lst [V.bl (k0),V.bl (k1),V.bl (k2),V.bl (k3),V.bl (k4),V.bl (k5)]):=by rw[eH3];exact c7
   refine (show c9 (c9 H1 l2 _) l3 _=H3 by rw[eH3,eH2])▸(?_:t9 _ _ _ _ H3);have a3:=sH3 a _ (sH2 a _ a1);refine ⟨_,rfl,_,rfl,a,C,_,_,_,rfl,.inl ⟨_,rfl,rfl⟩,a3,IC,p6,_,rfl,a,C,_,_,_,rfl,.inl ⟨_,rfl,rfl⟩,a3,IC,p7,_,rfl,a,C,_,_,_,rfl,.inl ⟨_,rfl,rfl⟩,a3,IC,p8,(show 3<=sizeLine by decide),fun l4 h4=> ?_⟩;obtain ⟨H4,eH4⟩:∃Hn,Hn=c9 H3 l4 (.lst [V.bl (k6),V.bl (k7),V.bl (k8)]):=⟨_,rfl⟩;have sH4:c6 H3 H4:=eH4▸c6.upd_new h4
   have gH4:H4 l4=some (.lst [V.bl (k6),V.bl (k7),V.bl (k8)]):=by rw[eH4];exact c7
   refine ⟨l3,l4,[V.bl (k0),V.bl (k1),V.bl (k2),V.bl (k3),V.bl (k4),V.bl (k5)],[V.bl (k6),V.bl (k7),V.bl (k8)],rfl,rfl,c6.upd_new h4 _ _ gH3,c7,(show 9<=sizeLine by decide),fun l5 h5=> ?_⟩;have h5:H4 l5=none:=eH4▸h5;obtain ⟨H5,eH5⟩:∃Hn,Hn=c9 H4 l5 (.lst [V.bl (k0),V.bl (k1),V.bl (k2),V.bl (k3),V.bl (k4),V.bl (k5),V.bl (k6),V.bl (k7),V.bl (k8)]):=⟨_,rfl⟩;have sH5:c6 H4 H5:=eH5▸c6.upd_new h5
   have gH5:H5 l5=some (.lst [V.bl (k0),V.bl (k1),V.bl (k2),V.bl (k3),V.bl (k4),V.bl (k5),V.bl (k6),V.bl (k7),V.bl (k8)]):=by rw[eH5];exact c7
   refine (show c9 (c9 H3 l4 _) l5 _=H5 by rw[eH5,eH4])▸(?_:t9 _ _ _ _ H5);have a5:=sH5 a _ (sH4 a _ a3);refine ⟨_,rfl,.inl ⟨rfl,_,g9.of gH5⟩,_,rfl,a,C,_,_,_,rfl,.inl ⟨_,rfl,rfl⟩,a5,IC,p9,l5,_,_,rfl,rfl,gH5,(show 10<=sizeLine by decide),?_⟩;have S5:c6 H H4:=sH1.trans (sH2.trans (sH3.trans sH4));obtain ⟨H6,eH6⟩:∃Hn,Hn=c9 H5 l5 (.lst [V.bl (k0),V.bl (k1),V.bl (k2),V.bl (k3),V.bl (k4),V.bl (k5),V.bl (k6),V.bl (k7),V.bl (k8),V.bl (k9)]):=⟨_,rfl⟩
   have gH6:H6 l5=some (.lst [V.bl (k0),V.bl (k1),V.bl (k2),V.bl (k3),V.bl (k4),V.bl (k5),V.bl (k6),V.bl (k7),V.bl (k8),V.bl (k9)]):=by rw[eH6];exact c7
   have s6:c6 H H6:=eH6▸(S5.trans sH5).upd_r (S5.free h5);have a6:=s6 a _ hH;refine eH6▸(?_:t9 _ _ _ _ H6);obtain ⟨kl,fl,cnt,j,hj,wj,kj,kb⟩:=dl1 hn (ks:=[V.bl (k0),V.bl (k1),V.bl (k2),V.bl (k3),V.bl (k4),V.bl (k5),V.bl (k6),V.bl (k7),V.bl (k8),V.bl (k9)]) (by rw[hk0,hk1,hk2,hk3,hk4,hk5,hk6,hk7,hk8,hk9]);generalize [V.bl (k0),V.bl (k1),V.bl (k2),V.bl (k3),V.bl (k4),V.bl (k5),V.bl (k6),V.bl (k7),V.bl (k8),V.bl (k9)]=ks at gH6 kl fl cnt kj kb;refine ⟨_,rfl,.inl ⟨rfl,_,g9.of gH6⟩,⟨l5,ks,.bl true,rfl,rfl,rfl,fl,gH6,?_⟩⟩;rw[cnt];refine ⟨rfl,_,rfl,?_⟩;refine y7 ⟨_,rfl,a,C,_,_,_,rfl,.inr ⟨_,rfl,rfl⟩,a6,IC,ER.ve (n,C) hn,_,rfl,?_⟩;refine y7 ?_;refine ⟨(show 10<=sizeLine by decide),fun l7 h7=> ?_⟩;have hjk:j < ks.length:=(ed3.mp kj).1;refine ⟨_,rfl,_,rfl,.inl ⟨rfl,_,g9.of (c6.upd_new h7 _ _ gH6)⟩,⟨l5,ks,.bl true,j,rfl,rfl,rfl,fl,c6.upd_new h7 _ _ gH6,⟨_,kj,rfl⟩,fun i y hi e=> ?_,?_,?_⟩⟩
   · rw[kb i hi] at e;cases e;rfl
   · omega
   · refine ⟨l7,_,_,_,rfl,rfl,g9.of c7,S4 (by rw[ed9,wj];rfl),q _ (s6.trans (c6.upd_new h7))⟩
end
end My
namespace My
open PySem L2 Mth
section
variable {P:Program} {w:World} {K:PySem.W.Frag} {mg:Str->Option Value} {base:Heap} {zxx zzx zyy zy zzz zyz zzy zyx zx zxz zxy:Addr}
def bk8 (q:Addr):Sp:=fun vs H _ E=>∃(n:Int),vs=[.int n]/\n < 1/\E (.ref q) none H
theorem ax8:n5 ["number"] ["number"] (i8 N0):=dg2
theorem aw2 {f:Addr}{fd:FuncData}(F:B6 K "must_be_from_one" "must_be_from_one" N0 f fd)(zu:o4 P w K mg base "is_whole" 1 ["thing"] (af5 K))(zpx:Err K mg "NoNumber" zzz):m9 P w K mg base (CX1 P w) 2 f fd ["number"] (bk8 zzz):=by
 refine F.okx ax8 (fun vs H Q E h=> ?_) (fun cdv A outer s H vs Q E hr h=> ?_)
 · obtain ⟨n,rfl,hn,q⟩:=h;rfl
 · obtain ⟨n,rfl,hn,q⟩:=h;have zox:l6 1 _:=hr.mono (by decide);refine ⟨_,@g6 _ _ _ (@y8 _ _ _ _ _ _ _ _ (@O0 _ _ _ _ _ _ _ (@V8 _ _ _ _ (@V7 _ _ _ (@i7 _ _ _ _ _ _ _ _ _ _ zu zox (@e8 _ _ _ (pv 0) (by rfl)) (by rfl) (by decide) (by rfl) (by rfl)) (by intro _;rfl))) (@S1 _ _ _ _ (@j6 _ _ _ _ _ _ _ _ as1 (pv 0) (@h8 _ _ _ _) (j7 _)))).pt (@g6 _ _ _ (@ae8 _ _ _ _ _ _ _ _ _ ab1 rfl zpx (@G3 _ _ _ _) (by rfl) (by rfl) (by decide))) (@o7 _)),?_⟩
   try dsimp only[t6,Cx.nox,Cx.wish]
   refine ⟨_,rfl,.int n,_,true,false,rfl,.int n,X3 K "int",X4 K,true,rfl,?_⟩;refine y7 ⟨_,rfl,_,_,rfl,rfl,_,rfl,?_⟩;rw[decide_eq_true hn];exact J8 q
end
end My
namespace My
open PySem L2 Mth
section
variable {P:Program} {w:World} {K:PySem.W.Frag} {mg:Str->Option Value} {base:Heap} {zxx zzx zyy zy zzz zyz zzy zyx zx zxz zxy:Addr}
def af8 (K:PySem.W.Frag)(H:Hp)(x:V):Prop:=∃t b1 b2,U8 K H x t/\PySem.W.kitOne K t (.type "int")=some b1/\PySem.W.kitOne K t (.type "bool")=some b2/\(b1&& !b2)=false
def E3 (K:PySem.W.Frag)(H:Hp)(v:V):Prop:=(∃t,U8 K H v t/\PySem.W.kitOne K t (.type "list")=some false)\/
 ∃(a:Addr) (xs:List V),v= .ref a/\H a=some (.lst xs)/\(∀x∈xs,(∃i:Int,x= .int i)\/af8 K H x)/\∀p:List Int,xs=p.map V.int->p.length<=40->¬E6 p
theorem bs6 {K:PySem.W.Frag}{H H':Hp}{v:V}{t:Value}(h:U8 K H v t)(s:c6 H H'):U8 K H' v t:=by
 cases h with
 |non=>exact .non
 |bl x=>exact .bl x
 |int i=>exact .int i
 |str x=>exact .str x
 |flt x=>exact .flt x
 |lst e=>exact .lst (s _ _ e)
 |frz e=>exact .frz (s _ _ e)
 |tup e=>exact .tup (s _ _ e)
 |dK e=>exact .dK (s _ _ e)
 |dT e=>exact .dT (s _ _ e)
 |ins e a b c d f=>exact .ins (s _ _ e) a b c d f
theorem af8.keep {K:PySem.W.Frag}{H H':Hp}{x:V}(h:af8 K H x)(s:c6 H H'):af8 K H' x:=by
 obtain ⟨t,b1,b2,ty,r⟩:=h;exact ⟨t,b1,b2,bs6 ty s,r⟩
theorem E3.keep {K:PySem.W.Frag}{H H':Hp}{v:V}(h:E3 K H v)(s:c6 H H'):E3 K H' v:=by
 rcases h with ⟨t,ty,r⟩|⟨a,xs,e,ha,el,no⟩
 · exact .inl ⟨t,bs6 ty s,r⟩
 · exact .inr ⟨a,xs,e,s _ _ ha,fun x hx=>(el x hx).imp id fun z=>z.keep s,no⟩
def bp2 (K:PySem.W.Frag):Sp:=fun vs H Q _=>∃v,vs=[v]/\E3 K H v/\∀H',c6 H H'->Q (.bl false) H'
theorem aw3:n5 ["thing","seen","place"] ["thing"] (i8 ah7):=by rfl'
theorem cn2 {f:Addr}{fd:FuncData}(F:B6 K "is_turn" "is_turn" ah7 f fd)(B:Bl mg)(za:∃t,mg "MOST_THINGS"=some (.int 40 t))(zu:o4 P w K mg base "is_whole" 1 ["thing"] (af5 K)):m9 P w K mg base E2 2 f fd ["thing"] (bp2 K):=by
 refine F.ok aw3 (fun vs H Q E h=> ?_) (fun cdv A outer s H vs Q E hr h=> ?_)
 · obtain ⟨v,rfl,no,k⟩:=h;rfl
 · obtain ⟨v,rfl,no,k⟩:=h;obtain ⟨_,zaz⟩:=za;have zox:l6 1 _:=hr.mono (by decide);have hu:=Q8 hr;refine ⟨_,@c8 _ _ _ _ _ (@y8 _ _ _ _ _ _ _ _ (@O0 _ _ _ _ _ _ _ (@V8 _ _ _ _ (@V7 _ _ _ (@bi7 _ _ _ _ _ _ B.isi (@e7 _ _ _ _ _ (pv 0) (@e8 _ _ _ (@br7 _ _ B.list (by rfl)) (by rfl)) (by rfl)) (by rfl) (by rfl) (by rfl)) (by intro _;rfl))) (@S1 _ _ _ _ (@j6 _ _ _ _ _ _ _ _ an5 (@o8 _ _ _ _ _ B.len (@e8 _ _ _ (pv 0) (by rfl)) (by rfl) (by rfl)) (@N6 _ _ (.int 40) _ _ (by rfl) zaz ⟨_,rfl⟩ (by decide)) (j7 _)))).pt (@g6 _ _ _ (@j9 _ _ _ _ (@K2 _ _ _ _))) (@o7 _)) (@c8 _ _ _ _ _ (@i4 _ _ (1) _ _ _ _ aw3.nd rfl (Or.inl rfl) (@V0 _ _) (by rfl) (by trivial)) (@c8 _ _ _ _ _ (@q0 _ _ _ _ _ _ _ _ PassesOwn.never rfl (@B8 _ _ _ _ (pv 0)) (@i9 _ _ (2) _ aw3.nd rfl (Or.inl rfl) (by trivial)) (@c8 _ _ _ _ _ (@y8 _ _ _ _ _ _ _ _ (@O0 _ _ _ _ _ _ _ (@V8 _ _ _ _ (@V7 _ _ _ (@i7 _ _ _ _ _ _ _ _ _ _ zu zox (@e8 _ _ _ (pv 2) (by rfl)) (by rfl) (by decide) (by rfl) (by rfl)) (by intro _;rfl))) (@O0 _ _ _ _ _ _ _ (@j6 _ _ _ _ _ _ _ _ as1 (pv 2) (@h8 _ _ _ _) (j7 _)) (@O0 _ _ _ _ _ _ _ (@j6 _ _ _ _ _ _ _ _ bh8 (pv 2) (@o8 _ _ _ _ _ B.len (@e8 _ _ _ (pv 0) (by rfl)) (by rfl) (by rfl)) (j7 _)) (@S1 _ _ _ _ (@ax9 _ _ _ _ _ _ (@cq6 _ _ _ _ _ hu (pv 2) (pv 1)) (by first|exact nobehind _ (by decide) (by decide)|rfl)))))).pt (@g6 _ _ _ (@j9 _ _ _ _ (@K2 _ _ _ _))) (@o7 _)) (@g6 _ _ _ (@aj8 _ _ _ _ _ _ _ _ _ hu (pv 1) (pv 2) (@K2 _ _ _ _) rfl))) (by intro _;rfl)) (@g6 _ _ _ (@j9 _ _ _ _ (@K2 _ _ _ _))))),?_⟩;refine av9 ?_;intros
   try dsimp only[t6,Cx.nox,Cx.wish]
   rcases no with ⟨t,ty,kt⟩|⟨a,xs,rfl,ha,el,no⟩
   · refine ⟨_,rfl,v,"list",t,false,rfl,ty,kt,false,rfl,?_⟩;exact J8 (k H (c6.refl H))
   · refine ⟨_,rfl,_,"list",_,true,rfl,.lst ha,X3 K "list",true,rfl,?_⟩;refine y7 ⟨_,rfl,a,_,rfl,.inl (g9.of ha),_,_,rfl,rfl,_,rfl,?_⟩;refine ac4 (fun h40=>k H (c6.refl H)) (fun h40=> ?_)
     have h40:¬(40:Int) < (xs.length:Int):=fun z=>h40 (decide_eq_true z)
     intro d hd;have nad:a≠d:=g7 ha hd
     have ha1:(c9 H d (.dK [])) a=some (.lst xs):=by rw[g8 nad];exact ha
     refine ⟨_,rfl,a,rfl,⟨_,g9.of ha1⟩,G4 (K:=K) (a:=a) (xs:=xs) (fun i σ H2=>∃(v:Option V) (p:List Int),σ=[some (.ref a),some (.ref d),v]/\c6 H H2/\xs.take i=p.map V.int/\H2 d=some (.dK (K6 p))/\p.Nodup/\∀x∈p,0<=x/\x < xs.length)
       ⟨none,[],rfl,c6.upd_new hd,rfl,c7,ej6,fun x hx=>by simp at hx⟩ (fun i σ H2 _ zz=>by obtain ⟨_,_,_,s2,_⟩:=zz;exact g9.of (s2 a _ ha)) ?_ ?_⟩
     · rintro i y σ H2 hi ⟨v,p,rfl,s2,hp,h2,nd,bd⟩;have ha2:=s2 a _ ha;have hil:i < xs.length:=(ed3.mp hi).1
       rcases el y (ee1 hi) with ⟨z,rfl⟩|odd
       · refine ⟨_,rfl,.int z,_,true,false,rfl,.int z,X3 K "int",X4 K,_,rfl,?_⟩;refine y7 ⟨_,rfl,_,_,rfl,rfl,_,rfl,?_⟩;refine ac4 (fun hz0=>J8 (k H2 s2)) (fun hz0=> ?_)
         have hz0:¬z < 0:=fun q=>hz0 (decide_eq_true q)
         refine ⟨_,rfl,_,rfl,a,_,rfl,.inl (g9.of ha2),_,_,rfl,rfl,_,rfl,?_⟩;refine ac4 (fun hz1=>J8 (k H2 s2)) (fun hz1=> ?_)
         have hz1:¬(xs.length:Int)<=z:=fun q=>hz1 (decide_eq_true q)
         refine ⟨_,rfl,_,rfl,d,_,rfl,X1.k (k:=Sum.inl z) h2,_,rfl,?_⟩
         have lp:p.length<=i:=by
           have:=congrArg ex9 hp;rw[ee9,ed2] at this;omega
         by_cases hm:z∈p
         · rw[al0 hm];exact J8 (k H2 s2)
         · rw[ae6 hm];refine y7 ⟨_,rfl,_,rfl,d,_,rfl,ao4.k (k:=Sum.inl z) h2 (m8 (by unfold K6;rw[ed2];omega)),?_⟩;refine ⟨some (.int z),p++[z],rfl,fun b o e=>by rw[g8 (g7 e hd)];exact s2 b o e,?_,?_,?_,?_⟩
           · rw[m7 hi,hp,ed8];rfl
           · rw[an7 hm,c7]
           · exact ak0 nd hm
           · intro x hx
             rcases ee2.mp hx with q|q
             · exact bd x q
             · have:x=z:=by simpa using q
               omega
       · obtain ⟨t,b1,b2,ty,e1,e2,e3⟩:=odd.keep s2;refine ⟨_,rfl,y,t,b1,b2,rfl,ty,e1,e2,_,rfl,?_⟩;rw[e3];exact J8 (k H2 s2)
     · rintro σ H2 ⟨v,p,rfl,s2,hp,h2,nd,bd⟩;rw[eg4] at hp
       have lp:xs.length=p.length:=by rw[hp,ed2]
       exact absurd (show E6 p from ⟨nd,fun x hx=>(bd x hx).1,fun x hx=>by have:=(bd x hx).2;omega⟩) (no p hp (by omega))
def bc4 (K:PySem.W.Frag)(q:Addr):Sp:=fun vs H _ E=>∃v,vs=[v]/\E3 K H v/\∀H',c6 H H'->E (.ref q) none H'
theorem bk9:n5 ["thing"] ["thing"] (i8 U0):=cw2
theorem bg5 {f:Addr}{fd:FuncData}(F:B6 K "must_be_turn" "must_be_turn" U0 f fd)(zkx:o4 P w K mg base "is_turn" 2 ["thing"] (bf5 av7 (bp2 K)))(zdz:Err K mg "NoTurn" zzx):m9 P w K mg base (CX1 P w) 3 f fd ["thing"] (bc4 K zzx):=by
 refine F.okx bk9 (fun vs H Q E h=> ?_) (fun cdv A outer s H vs Q E hr h=> ?_)
 · obtain ⟨v,rfl,no,k⟩:=h;rfl
 · obtain ⟨v,rfl,no,k⟩:=h;have hr_is_turn:l6 2 _:=hr.mono (by decide);refine ⟨_,@g6 _ _ _ (@y8 _ _ _ _ _ _ _ _ (@V8 _ _ _ _ (@V7 _ _ _ (@i7 _ _ _ _ _ _ _ _ _ _ zkx hr_is_turn (@e8 _ _ _ (pv 0) (by rfl)) (by rfl) (by decide) (by rfl) (by rfl)) (by intro _;rfl))) (@g6 _ _ _ (@ae8 _ _ _ _ _ _ _ _ _ ab1 rfl zdz (@G3 _ _ _ _) (by rfl) (by rfl) (by decide))) (@o7 _)),?_⟩
   try dsimp only[t6,Cx.nox,Cx.wish]
   refine ⟨_,rfl,.inr ⟨v,rfl,no,fun H' s=>⟨false,rfl,?_⟩⟩⟩;exact J8 (k H' s)
end
end My
namespace My
open PySem L2 Mth
section
variable {P:Program} {w:World} {K:PySem.W.Frag} {mg:Str->Option Value} {base:Heap} {zxx zzx zyy zy zzz zyz zzy zyx zx zxz zxy:Addr}
theorem cg1 (n:Nat):(L2.P0 0 n).Pairwise (· <= ·):=by
 unfold L2.P0;rw[em6];exact List.Pairwise.imp (fun {a b} h=>by omega) es9
theorem cw8 {ms r:List Int}(h:ms.Perm r)(s:ms.Pairwise (· <= ·))(t:E6 r):ms=L2.P0 0 r.length:=by
 have h2:ms.Perm (L2.P0 0 r.length):=h.trans t.perm;have:=bd6 (a:=ms.reverse) (b:=(L2.P0 0 r.length).reverse) (((es8 ms).trans h2).trans (es8 _).symm) (by rw[eq9];exact s) (by rw[eq9];exact cg1 _);exact List.reverse_inj.mp this
theorem dd5 {H:Hp}{a:Addr}{ns:List Int}(h:H a=some (.lst (ns.map V.int)))(no:ns.length<=40->¬E6 ns):E3 K H (.ref a):=
 .inr ⟨a,_,rfl,h,fun x hx=>by obtain ⟨i,_,rfl⟩:=ee5.mp hx;exact .inl ⟨i,rfl⟩,fun p e l=>by rw[bd5 e] at no;exact no l⟩
theorem dl2 {H:Hp}{a:Addr}{xs:List V}{y:V}(h:H a=some (.lst xs))(el:∀x∈xs,(∃i:Int,x= .int i)\/af8 K H x)(hy:y∈xs)(ny:∀i:Int,y= .int i->i < 0\/(xs.length:Int)<=i):E3 K H (.ref a):=
 .inr ⟨a,xs,rfl,h,el,fun p e l t=>by
   rw[e] at hy ny;obtain ⟨i,hi,rfl⟩:=ee5.mp hy;have h1:=t.lo i hi;have h2:=t.hi i hi
   rcases ny i rfl with z|z
   · omega
   · rw[ed2] at z;omega⟩
theorem ds8 {H:Hp}(b:Bool):af8 K H (.bl b):=⟨_,true,true,.bl b,bx7 K,X3 K "bool",rfl⟩
theorem dl3 {H:Hp}:af8 K H .non:=⟨_,false,false,.non,bz7 K,bu4 K,rfl⟩
theorem dl4 {H:Hp}(x:Str):af8 K H (.str x):=⟨_,false,false,.str x,cf7 K,bz8 K,rfl⟩
theorem dl5 {H:Hp}{a:Addr}{xs:List V}(h:H a=some (.lst xs)):af8 K H (.ref a):=⟨_,false,false,.lst h,ca0 K,bu6 K,rfl⟩
theorem dl6 {H:Hp}{a:Addr}{xs:List V}(h:H a=some (.tup xs)):af8 K H (.ref a):=⟨_,false,false,.tup h,bu7 K,bn5 K,rfl⟩
def SE (H:Hp)(x:V):Prop:=∃d,Sh H x d/\d.showable=true/\d.shown.length<=2000/\d.depth<=3
theorem SE.keep {H H':Hp}{x:V}(h:SE H x)(s:c6 H H'):SE H' x:=let ⟨d,a,r⟩:=h;⟨d,a.keep s,r⟩
theorem dl7 {k:Nat}(hk:200<=k){i:Int}(h1: -10000000000000000000000000000000000000000<=i)(h2:i<=10000000000000000000000000000000000000000):i.natAbs.log2 < k:=by
 by_cases z:i.natAbs=0
 · rw[z,Nat.log2_zero];omega
 · refine (Nat.log2_lt z).mpr (eg2 (m:=2^200) ?_ (ek4 (by decide) hk))
   have e:(2:Nat)^200=1606938044258990275541962092341162602522202993782792835301376:=by decide
   rw[e];omega
theorem ds9 {i:Int}(h1: -10000000000000000000000000000000000000000<=i)(h2:i<=10000000000000000000000000000000000000000):i.natAbs.log2 < 1920:=dl7 (by decide) h1 h2
theorem cc0 {H:Hp}{i:Int}(h1: -10000000000000000000000000000000000000000<=i)(h2:i<=10000000000000000000000000000000000000000):SE H (.int i):=by
 have lg:=ds9 h1 h2;refine ⟨_,.int i,by simp only[PyData.showable];exact decide_eq_true lg,?_,by simp only[PyData.depth];decide⟩;simp only[PyData.shown]
 have:(Str.ofString (toString i)).length<=1921:=by
   rw[ofString_length];exact int_text_length_le (k:=1920) (by decide) lg
 exact ee6 this (by decide)
theorem cw9 {H:Hp}:∀{xs:List V},(∀x∈xs,SE H x)->∃ds,P1 H xs ds/\PyData.showableAll ds=true/\(∀t∈PyData.shownAll ds,t.length<=2000)/\(PyData.shownAll ds).length=xs.length/\PyData.depthAll ds<=3
 |[],_=>⟨[],.nil,by simp only[PyData.showableAll],(fun t h=>by simp only[PyData.shownAll] at h;cases h),by simp only[PyData.shownAll,ex4],by simp only[PyData.depthAll];decide⟩
 |x::xs,h=>by
  obtain ⟨ds,h1,h2,h3,h4,h5⟩:=cw9 fun y hy=>h y (ee0 _ hy)
  obtain ⟨d,g1,g2,g3,g4⟩:=h x ed7;refine ⟨d::ds,.cons g1 h1,by simp only[PyData.showableAll];rw[g2,h2];rfl,fun t ht=> ?_,by simp only[PyData.shownAll,eg3,h4],by simp only[PyData.depthAll];omega⟩;simp only[PyData.shownAll] at ht
  rcases ee8.mp ht with z|z
  · rw[z];exact g3
  · exact h3 t z
theorem cc1 {H:Hp}{a:Addr}{xs:List V}(h:H a=some (.lst xs))(hx:∀x∈xs,SE H x)(l:xs.length<=1000):∃d,ShD H (.ref a) d:=by
 obtain ⟨ds,h1,h2,h3,h4,h5⟩:=cw9 hx;refine ⟨.list ds,.inl (.lst h h1),by simp only[PyData.showable];exact h2,?_,by simp only[PyData.depth];omega⟩;simp only[PyData.shown];refine ee6 (cf6 h3) ?_;rw[h4,sizeLine_eq];have:=ej3 (2000+2) l;omega
def B7 (K:PySem.W.Frag)(H:Hp)(vs:List V):Prop:=∀v∈vs,E3 K H v/\∃d,ShD H v d
theorem B7.keep {H H':Hp}{vs:List V}(h:B7 K H vs)(s:c6 H H'):B7 K H' vs:=fun v hv=>let ⟨a,d,b⟩:=h v hv;⟨a.keep s,d,b.keep s⟩
theorem B7.app {H:Hp}{vs us:List V}(h:B7 K H vs)(g:B7 K H us):B7 K H (vs++us):=fun v hv=>(ee2.mp hv).elim (h v) (g v)
theorem cc2 {H:Hp}{a:Addr}{ns:List Int}(h:H a=some (.lst (ns.map V.int)))(no:ns.length<=40->¬E6 ns)(l:ns.length<=1000)(b:∀x∈ns,-10000000000000000000000000000000000000000<=x/\x<=10000000000000000000000000000000000000000):E3 K H (.ref a)/\∃d,ShD H (.ref a) d:=
 ⟨dd5 h no,cc1 h (fun x hx=>by obtain ⟨i,hi,rfl⟩:=ee5.mp hx;exact cc0 (b i hi).1 (b i hi).2) (by rw[ed2];exact l)⟩
def C4 (H:Hp)(g l:Addr):Hp:=fun a=>if a=g\/a=l then none else H a
theorem O8 {H:Hp}{g l a:Addr}{o:HO}(h:H a=some o)(ng:a≠g)(nl:a≠l):C4 H g l a=some o:=by
 unfold C4;rw[if_neg (fun z=>z.elim ng nl)];exact h
theorem U6 {H:Hp}{g l a:Addr}{o:HO}(h:C4 H g l a=some o):H a=some o/\a≠g/\a≠l:=by
 unfold C4 at h
 by_cases z:a=g\/a=l
 · rw[if_pos z] at h;cases h
 · rw[if_neg z] at h;exact ⟨h,fun e=>z (.inl e),fun e=>z (.inr e)⟩
theorem G2 {H H':Hp}{g l:Addr}(k:j5 g H H'):c6 (C4 H g l) (C4 H' g l):=fun a o h=>let ⟨e,ng,nl⟩:=U6 h;O8 (k a o e ng) ng nl
theorem cc3 {H:Hp}{g l:Addr}{o:HO}:c6 (C4 H g l) (C4 (c9 H l o) g l):=fun a u h=>let ⟨e,ng,nl⟩:=U6 h;O8 (by rw[g8 nl];exact e) ng nl
theorem dl8 {H:Hp}{g l:Addr}:c6 (C4 H g l) (C4 H g g):=fun a o h=>let ⟨e,ng,_⟩:=U6 h;O8 e ng ng
theorem cx0 (H:Hp)(g l:Addr):c6 (C4 H g l) H:=fun a o h=>(U6 h).1
theorem dl9 {H H':Hp}{g l l2:Addr}(k:j5 g H H')(h:H l2=none):c6 (C4 H g l) (C4 H' g l2):=fun a o e=>let ⟨e1,ng,_⟩:=U6 e;O8 (k a o e1 ng) ng (g7 e1 h)
theorem ai0 {H H':Hp}{g l:Addr}{o u:HO}(hg:H g=some o)(hl:H l=some u):c6 (ae9 H H') (C4 H' g l):=fun a x e=>by
 obtain ⟨e0,e1⟩:=X5 e;exact O8 e1 (fun z=>by rw[z,hg] at e0;cases e0) (fun z=>by rw[z,hl] at e0;cases e0)
theorem bg6 {H:Hp}:∀{xs:List V} {rs:List (List Int)},P1 H xs (rs.map fun r=>PyData.list (r.map PyData.int))->∃as:List Addr,xs=as.map V.ref/\as.length=rs.length/\∀a∈as,∃ns∈rs,H a=some (.lst (ns.map V.int))
 |xs,[],h=>by cases h;exact ⟨[],rfl,rfl,fun a ha=>by cases ha⟩
 |xs,r::rs,h=>by
  cases h with
  |cons h hs=>
   obtain ⟨as,rfl,la,hr⟩:=bg6 hs
   cases h with
   |lst e hx=>
    rename_i a ys
    have:ys=r.map V.int:=by
      clear e hr hs
      induction r generalizing ys with
      |nil=>cases hx;rfl
      |cons i r ih=>cases hx with|cons h1 h2=>cases h1;rw[ih h2];rfl
    refine ⟨a::as,rfl,by simp [la],fun b hb=> ?_⟩
    rcases ee8.mp hb with rfl|hb
    · exact ⟨r,ed7,by rw[<-this];exact e⟩
    · obtain ⟨ns,h1,h2⟩:=hr b hb;exact ⟨ns,ee0 _ h1,h2⟩
def bp3 (H:Hp)(a:Addr):Prop:=∃ns:List Int,H a=some (.lst (ns.map V.int))/\ns.length<=41/\∀x∈ns,-100<=x/\x<=100
theorem bp3.keep {H H':Hp}{a:Addr}(h:bp3 H a)(s:c6 H H'):bp3 H' a:=let ⟨ns,e,r⟩:=h;⟨ns,s _ _ e,r⟩
def az8 (H H2:Hp)(g l:Addr)(as:List Addr):Prop:=j5 g H H2/\A0 H2 g/\H2 l=some (.lst (as.map V.ref))/\∀a∈as,bp3 (C4 H2 g l) a
theorem az8.next {H H2 H3:Hp}{g l:Addr}{as:List Addr}(h:az8 H H2 g l as)(n:l≠g)(k:j5 g H2 H3)(d:A0 H3 g):az8 H H3 g l as:=
 ⟨h.1.trans k,d,k _ _ h.2.2.1 n,fun a ha=>(h.2.2.2 a ha).keep (G2 k)⟩
theorem az8.app {H H2:Hp}{g l o:Addr}{as:List Addr}(h:az8 H H2 g l as)(n:l≠g)(hl:H l=none)(r:bp3 (C4 H2 g l) o):az8 H (c9 H2 l (.lst (as.map V.ref++[.ref o]))) g l (as++[o]):=
 ⟨h.1.upd_r hl,h.2.1.upd n.symm,by rw[c7,ed8];rfl,fun a ha=>by
   rcases ee2.mp ha with z|z
   · exact (h.2.2.2 a z).keep cc3
   · rw[ee3.mp z];exact r.keep cc3⟩
theorem A0.ne {H:Hp}{a b:Addr}(h:A0 H a)(n:H b=none):b≠a:=fun z=>by obtain ⟨o,e⟩:=h.some;rw[<-z,n] at e;cases e
def ab8 (K:PySem.W.Frag)(H:Hp)(n:Nat)(y:V):Prop:=((∃i:Int,y= .int i)\/af8 K H y)/\(∀i:Int,y= .int i->i < 0\/(n:Int)+1<=i)/\SE H y
theorem ab8.keep {H H':Hp}{n:Nat}{y:V}(h:ab8 K H n y)(s:c6 H H'):ab8 K H' n y:=⟨h.1.imp id fun z=>z.keep s,h.2.1,h.2.2.keep s⟩
theorem dm0 {H:Hp}{a:Addr}{xs:List V}{y:V}{n:Nat}(h:H a=some (.lst xs))(el:∀x∈xs,(∃i:Int,x= .int i/\0<=i/\i<=100)\/x=y)(hy:y∈xs)(l:xs.length<=n+1)(n40:n<=40)(o:ab8 K H n y):E3 K H (.ref a)/\∃d,ShD H (.ref a) d:=
 ⟨dl2 h (fun x hx=>by
     rcases el x hx with ⟨i,e,_⟩|e
     · exact .inl ⟨i,e⟩
     · rw[e];exact o.1) hy (fun i e=>by have:=o.2.1 i e;omega),
  cc1 h (fun x hx=>by
     rcases el x hx with ⟨i,e,b1,b2⟩|e
     · rw[e];exact cc0 (by omega) (by omega)
     · rw[e];exact o.2.2) (by omega)⟩
theorem bs7 {H:Hp}{x:V}{d:PyData}(h:Sh H x d):(∃i:Int,x= .int i)\/af8 K H x:=by
 cases h with
 |non=>exact .inr dl3
 |bl b=>exact .inr (ds8 b)
 |int i=>exact .inl ⟨i,rfl⟩
 |str x=>exact .inr (dl4 x)
 |lst e _=>exact .inr (dl5 e)
 |tup e _=>exact .inr (dl6 e)
def cn3 (d:PyData):Bool:=d.showable&&decide (d.shown.length<=2000)&&decide (d.depth<=3)&&(match d with
 | .int i=>decide (41<=i)
 |_=>true)
theorem dd6 {M:Hp}{y:V}{d:PyData}{n:Nat}(n40:n<=40)(h:Sh M y d)(o:cn3 d=true):ab8 K M n y:=by
 unfold cn3 at o;rw[eg7,eg7,eg7] at o;obtain ⟨⟨⟨a,b⟩,c⟩,e⟩:=o;refine ⟨bs7 h,fun i hi=> ?_,d,h,a,of_decide_eq_true b,of_decide_eq_true c⟩;subst hi;cases h;have:=of_decide_eq_true e;exact .inr (by omega)
theorem bs8 {M:Hp}{n:Nat}(n40:n<=40):∀{xs:List V} {ds:List PyData},P1 M xs ds->ds.all cn3=true->∀y∈xs,ab8 K M n y
 |_,_,.nil,_,y,hy=>by cases hy
 |_,_,.cons h hs,o,y,hy=>by
  rw[ev5,eg7] at o
  rcases ee8.mp hy with z|z
  · rw[z];exact dd6 n40 h o.1
  · exact bs8 n40 hs o.2 y z
theorem cx1 (xs:List V)(k:Nat):(w5 xs (some (k:Int)) none).length<=xs.length - k:=by
 unfold w5;rw[HT.eb6,HT.ea0,ee9,eg5];omega
theorem cc4 {xs:List V}{lo hi:Option Int}{x:V}(h:x∈w5 xs lo hi):x∈xs:=by
 unfold w5 at h;exact en7 (ei4 h)
theorem bd9 {p:List Int}{y:V}{n k:Nat}(hp:∀x∈p,0<=x/\x<=100)(h:n<=k)(h2:n<=p.length):(∀x∈w5 (p.map V.int) none (some (n:Int))++[y]++w5 (p.map V.int) (some (k:Int)) none,(∃i:Int,x= .int i/\0<=i/\i<=100)\/x=y)/\y∈w5 (p.map V.int) none (some (n:Int))++[y]++w5 (p.map V.int) (some (k:Int)) none/\
   (w5 (p.map V.int) none (some (n:Int))++[y]++w5 (p.map V.int) (some (k:Int)) none).length<=p.length+1:=by
 have of:∀x∈p.map V.int,∃i:Int,x= .int i/\0<=i/\i<=100:=fun x hx=>by
   obtain ⟨i,hi,rfl⟩:=ee5.mp hx;exact ⟨i,rfl,hp i hi⟩
 refine ⟨fun x hx=> ?_,by simp,?_⟩
 · rcases ee2.mp hx with z|z
   · rcases ee2.mp z with z|z
     · exact .inl (of x (cc4 z))
     · exact .inr (ee3.mp z)
   · exact .inl (of x (cc4 z))
 · have a:=cx1 (p.map V.int) k;have b:=bj4 (p.map V.int) n (by rw[ed2];exact h2);rw[b,ed6,ed6,ee9,ej7];rw[ed2] at a ⊢;omega
theorem aw4 (K:PySem.W.Frag)(H:Hp)(n:Nat)(xs:List V)(h:xs.all W7=true)(h2:∀x∈xs,eqV x x=true):LEq K H n xs xs true:=by
 refine .inr ⟨fun _=>true,rfl,fun j x y e1 e2=> ?_,by rw[eq_comm,ax3];exact fun _ _=>rfl⟩;rw[e1] at e2;cases e2;have m:=ee1 e1;rw[<-h2 x m];exact .flat (el8.mp h x m) (el8.mp h x m)
def af9 (K:PySem.W.Frag)(most:Nat):Sp:=fun vs H Q _=>∃(g pa:Addr) (p:List Int),vs=[.ref g,.ref pa]/\A0 H g/\pa≠g/\x9 H pa p/\∀(l:Addr) (xs:List V) (H':Hp),H l=none->j5 g H H'->A0 H' g->H' l=some (.lst xs)->xs.length<=most->B7 K (C4 H' g g) xs->Q (.ref l) H'
theorem J3:n5 ["deck","p","found","many","one","k","at","other","odd"] ["deck","p"] (i8 am1):=by rfl'
theorem ai7:(["thing","deck","p"]:List Str).Nodup:=by decide+kernel
theorem R3:(["k","thing","other","at"]:List Str).Nodup:=by decide+kernel
theorem bc9:(["one"]:List Str).Nodup:=by decide+kernel
theorem bv2 {f:Addr}{fd:FuncData}(F:B6 K "_law_spoilt" "_law_spoilt" am1 f fd)(B:Bl mg)(zwz:o4 P w K mg base "_law_next" 1 ["deck"] ar0):m9 P w K mg base E2 2 f fd ["deck","p"] (af9 K 40):=by
 refine F.ok J3 (fun vs H Q E h=> ?_) (fun cdv A outer s H vs Q E hr h=> ?_)
 · obtain ⟨g,pa,p,rfl,hg,npg,tp,q⟩:=h;rfl
 · obtain ⟨g,pa,p,rfl,hg,npg,tp,q⟩:=h;have zv:l6 1 _:=hr.mono (by decide);have hu:=Q8 hr;refine ⟨_,@ct5 _ _ _ _ _ (@i4 _ _ (2) _ _ _ _ J3.nd rfl (Or.inl rfl) (@o5 _ _ _ _ (@bf6 _ 9 2 _ _ [.list [.int (1),.int (1),.int (1)],.list [.int (0),.int (0),.int (3),.int (3)]] (by rfl) (@e7 _ _ _ _ _ (@i6 _ _ _ _ _ _ _ _ ay2 (@o5 _ _ _ _ (@e8 _ _ _ (@h8 _ _ _ _) (by rfl))) (@h8 _ _ _ _)) (@bb8 _ 9 _ [.list [.int (0),.int (1),.int (0)],.list [.int (0),.int (2),.int (2)]] (by rfl)) (by rfl)))) (by rfl) (by trivial)) (@ci2 _ _ _ _ _ (@db6 _ _ _ _ _ _ _ _ _ [1,2,3,9] (by decide+kernel) rfl PassesOwn.never (@i9 _ _ (3) _ J3.nd rfl (Or.inl rfl) (by trivial)) (@c8 _ _ _ _ _ (@i4 _ _ (4) _ _ _ _ J3.nd rfl (Or.inl rfl) (@ab0 _ _ _ _ _ B.list (@e8 _ _ _ (pv 1) (by rfl)) (by rfl) (by rfl)) (by rfl) (by trivial)) (@c8 _ _ _ _ _ (@q0 _ _ _ _ _ _ _ _ PassesOwn.never rfl (@Q6 _ _ _ _ _ _ (by rfl) B.range (@e8 _ _ _ (@i6 _ _ _ _ _ _ _ _ V9 (pv 3) (@aq2 _ _ _ _ _ B.int (@e8 _ _ _ (@Y2 _ _ _ _ _ _ _ _ (ac6 0 hu) (pv 1) (@o5 _ _ _ _ (@j8 _)) (j7 _)) (by rfl)) (by rfl) (by rfl))) (by rfl)) (by rfl)) (@i9 _ _ (5) _ J3.nd rfl (Or.inl rfl) (by trivial)) (@g6 _ _ _ (@ak5 _ _ _ _ _ _ (@i6 _ _ _ _ _ _ _ _ C1 (@i7 _ _ _ _ _ _ _ _ _ _ zwz zv (@e8 _ _ _ (pv 0) (by rfl)) (by rfl) (by decide) (by rfl) (by rfl)) (@o8 _ _ _ _ _ B.len (@e8 _ _ _ (pv 1) (by rfl)) (by rfl) (by rfl))) (@ap6 _ _ _ _ _ _ _ (pv 4) (@i6 _ _ _ _ _ _ _ _ C1 (@i7 _ _ _ _ _ _ _ _ _ _ zwz zv (@e8 _ _ _ (pv 0) (by rfl)) (by rfl) (by decide) (by rfl) (by rfl)) (@o8 _ _ _ _ _ B.len (@e8 _ _ _ (pv 1) (by rfl)) (by rfl) (by rfl))) ae3 (by intro _;rfl)) (by rfl) (by rfl) (by rfl))) (by intro _;rfl)) (@g6 _ _ _ (@w9 _ _ _ _ (@B0 _ _ _ _ _ _ _ (pv 2) (@e8 _ _ _ (pv 4) (by rfl)) (by rfl) (by rfl) (by rfl) (by rfl) (by rfl)) (by rfl))))) (by intro _;rfl)) (@c8 _ _ _ _ _ (@w9 _ _ _ _ (@B0 _ _ _ _ _ _ _ (pv 2) (@e8 _ _ _ (@aq0 _ _ _ _ _ _ _ _ _ _ _ (["thing","deck","p"]) (1) ([0,1]) rfl .of (@B8 _ _ _ _ (pv 1)) (fun _ _ _ _ _=>@i9 _ _ (0) _ ai7 rfl (Or.inl rfl) (by trivial)) (fun _ _ _ _ _=>(@be8 _)) (fun _ _ _ _ _=>(@i6 _ _ _ _ _ _ _ _ C1 (@i7 _ _ _ _ _ _ _ _ _ _ zwz zv (@e8 _ _ _ (pv 1) (by rfl)) (by rfl) (by decide) (by rfl) (by rfl)) (@be9 _ _ _ _ _ K (by exact B.len) (@e8 _ _ _ (pv 2) (by rfl)) (by rfl) (by rfl) (by rfl)))) (by intro _;rfl)) (by rfl)) (by rfl) (by rfl) (by rfl) (by rfl) (by rfl)) (by rfl)) (@c8 _ _ _ _ _ (@i4 _ _ (6) _ _ _ _ J3.nd rfl (Or.inr rfl) (@i6 _ _ _ _ _ _ _ _ C1 (@i7 _ _ _ _ _ _ _ _ _ _ zwz zv (@e8 _ _ _ (pv 0) (by rfl)) (by rfl) (by decide) (by rfl) (by rfl)) (@bb5 _ _ _ _ _ _ rfl B.max (@e7 _ _ _ _ _ (@h8 _ _ _ _) (@e8 _ _ _ (@o8 _ _ _ _ _ B.len (@e8 _ _ _ (pv 1) (by rfl)) (by rfl) (by rfl)) (by rfl)) (by rfl)) (by rfl) (by rfl) (by rfl))) (by rfl) (by trivial)) (@c8 _ _ _ _ _ (@i4 _ _ (7) _ _ _ _ J3.nd rfl (Or.inr rfl) (@i6 _ _ _ _ _ _ _ _ C1 (@i7 _ _ _ _ _ _ _ _ _ _ zwz zv (@e8 _ _ _ (pv 0) (by rfl)) (by rfl) (by decide) (by rfl) (by rfl)) (@bb5 _ _ _ _ _ _ rfl B.max (@e7 _ _ _ _ _ (@h8 _ _ _ _) (@e8 _ _ _ (@o8 _ _ _ _ _ B.len (@e8 _ _ _ (pv 1) (by rfl)) (by rfl) (by rfl)) (by rfl)) (by rfl)) (by rfl) (by rfl) (by rfl))) (by rfl) (by trivial)) (@c8 _ _ _ _ _ (@w9 _ _ _ _ (@B0 _ _ _ _ _ _ _ (pv 2) (@e8 _ _ _ (@aq0 _ _ _ _ _ _ _ _ _ _ _ (["k","thing","other","at"]) (2) ([7,6]) rfl .of (@ak1 _ _ _ _ _ _ _ _ B.enum (@e8 _ _ _ (pv 1) (by rfl)) (by rfl) (by rfl)) (fun _ _ _ _ _=>@di2 K _ _ _ _ (2) _ rfl (@A9 _ _ _ _ _ (@i9 _ _ (0) _ R3 rfl (Or.inl rfl) (by trivial)) (@A9 _ _ _ _ _ (@i9 _ _ (1) _ R3 rfl (Or.inl rfl) (by trivial)) (@S2 _) (by rfl)) (by rfl)) (by rfl) (by rfl) (by rfl)) (fun _ _ _ _ _=>(@be8 _)) (fun _ _ _ _ _=>(@i6 _ _ _ _ _ _ _ _ Z5 (@i6 _ _ _ _ _ _ _ _ C0 (pv 1) (@aq2 _ _ _ _ _ B.int (@e8 _ _ _ (@Y2 _ _ _ _ _ _ _ _ ac3 (pv 0) (pv 3) (j7 _)) (by rfl)) (by rfl) (by rfl))) (@aq2 _ _ _ _ _ B.int (@e8 _ _ _ (@Y2 _ _ _ _ _ _ _ _ ac3 (pv 0) (pv 2) (j7 _)) (by rfl)) (by rfl) (by rfl)))) (by intro _;rfl)) (by rfl)) (by rfl) (by rfl) (by rfl) (by rfl) (by rfl)) (by rfl)) (@c8 _ _ _ _ _ (@bm3 _ (2) _ _ _ _ _ _ _ _ _ _ _ _ _ (["one"]) (1) ([]) J3.nd rfl (Or.inl rfl) rfl .of (@B8 _ _ _ _ (pv 2)) (fun _ _ _ _ _=>@i9 _ _ (0) _ bc9 rfl (Or.inl rfl) (by trivial)) (fun _ _ _ _ _=>@ak9 _ _ _ (@j6 _ _ _ _ _ _ _ _ (dj4 K 0 hu) (@cm7 _ _ _ _ _ K B.sorted (@e8 _ _ _ (pv 0) (by rfl)) (by rfl) (by rfl) (by rfl)) (@V2 _ _ _ _ _ _ _ rfl B.list B.range (@e8 _ _ _ (@be9 _ _ _ _ _ K (by exact B.len) (@e8 _ _ _ (pv 0) (by rfl)) (by rfl) (by rfl) (by rfl)) (by rfl)) (by rfl) (by rfl) (by rfl) (by rfl)) (j7 _))) (fun _ _ _ _ _=>(pv 0)) (by rfl) (by intro _;rfl) (by trivial)) (@c8 _ _ _ _ _ (@q0 _ _ _ _ _ _ _ _ PassesOwn.never rfl (@B8 _ _ _ _ (@o5 _ _ _ _ (@e7 _ _ _ _ _ (@aj2 _ _ _ _ _ _ ac2 (@h8 _ _ _ _)) (@e7 _ _ _ _ _ (@i6 _ _ _ _ _ _ _ _ Z5 (@aj2 _ _ _ _ _ _ ac2 (@h8 _ _ _ _)) (@o8 _ _ _ _ _ B.len (@e8 _ _ _ (pv 1) (by rfl)) (by rfl) (by rfl))) (@e7 _ _ _ _ _ (@aj2 _ _ _ _ _ _ ac2 (@i6 _ _ _ _ _ _ _ _ bh7 (@h8 _ _ _ _) (@h8 _ _ _ _))) (@e7 _ _ _ _ _ (@i6 _ _ _ _ _ _ _ _ C0 (@o8 _ _ _ _ _ B.len (@e8 _ _ _ (pv 1) (by rfl)) (by rfl) (by rfl)) (@h8 _ _ _ _)) (@bb8 _ 9 _ [.int (100000000000000000000),.bool true,.bool false,.none,.str "0",.list [.int (0)],.tuple [.int (0)]] (by rfl)) (by rfl)) (by rfl)) (by rfl)) (by rfl)))) (@i9 _ _ (8) _ J3.nd rfl (Or.inl rfl) (by trivial)) (@c8 _ _ _ _ _ (@i4 _ _ (6) _ _ _ _ J3.nd rfl (Or.inr rfl) (@i6 _ _ _ _ _ _ _ _ C1 (@i7 _ _ _ _ _ _ _ _ _ _ zwz zv (@e8 _ _ _ (pv 0) (by rfl)) (by rfl) (by decide) (by rfl) (by rfl)) (@bb5 _ _ _ _ _ _ rfl B.max (@e7 _ _ _ _ _ (@h8 _ _ _ _) (@e8 _ _ _ (@o8 _ _ _ _ _ B.len (@e8 _ _ _ (pv 1) (by rfl)) (by rfl) (by rfl)) (by rfl)) (by rfl)) (by rfl) (by rfl) (by rfl))) (by rfl) (by trivial)) (@g6 _ _ _ (@w9 _ _ _ _ (@B0 _ _ _ _ _ _ _ (pv 2) (@e8 _ _ _ (@N7 _ _ _ _ _ _ _ G1 (@o5 _ _ _ _ (@e7 _ _ _ _ _ (@i6 _ _ _ _ _ _ _ _ Q7 (@i6 _ _ _ _ _ _ _ _ Q7 (@O9 _ _ _ _ _ _ _ _ _ _ S6 (pv 1) (@S3 _) (@Q0 _ _ _ (pv 6))) (@o5 _ _ _ _ (@e8 _ _ _ (pv 8) (by rfl)))) (@O9 _ _ _ _ _ _ _ _ _ _ S6 (pv 1) (@Q0 _ _ _ (@i6 _ _ _ _ _ _ _ _ C0 (pv 6) (@h8 _ _ _ _))) (@S3 _))) (@e8 _ _ _ (@i6 _ _ _ _ _ _ _ _ Q7 (@i6 _ _ _ _ _ _ _ _ Q7 (@O9 _ _ _ _ _ _ _ _ _ _ S6 (pv 1) (@S3 _) (@Q0 _ _ _ (pv 6))) (@o5 _ _ _ _ (@e8 _ _ _ (pv 8) (by rfl)))) (@O9 _ _ _ _ _ _ _ _ _ _ S6 (pv 1) (@Q0 _ _ _ (pv 6)) (@S3 _))) (by rfl)) (by rfl))) (@i6 _ _ _ _ _ _ _ _ C1 (@i7 _ _ _ _ _ _ _ _ _ _ zwz zv (@e8 _ _ _ (pv 0) (by rfl)) (by rfl) (by decide) (by rfl) (by rfl)) (@h8 _ _ _ _)) (fun _ _=>rfl)) (by rfl)) (by rfl) (by rfl) (by rfl) (by rfl) (by rfl)) (by rfl)))) (by intro _;rfl)) (@g6 _ _ _ (@j9 _ _ _ _ (pv 2)))))))))),?_⟩
   refine dx0 ?_;intros
   try dsimp only[t6,Cx.nox,Cx.wish]
   have tpa:=tp.1;have p40:=tp.2.2
   refine fun xs0 H0 s0 sa0=> ?_
   refine ⟨(show 1<=sizeLine by decide),fun l8 hl8=> ?_⟩;have s1:c6 H0 (c9 H0 l8 (.lst [V.int 8])):=c6.upd_new hl8
   have h1l8:(c9 H0 l8 (.lst [V.int 8])) l8=some (.lst [V.int 8]):=by rw[c7]
   generalize (c9 H0 l8 (.lst [V.int 8]))=H1 at s1 h1l8 ⊢;refine ⟨l8,17,_,rfl,rfl,h1l8,by decide,by decide,(show 17<=sizeLine by decide),fun l9 hl9=> ?_⟩;have s2:c6 H1 (c9 H1 l9 (.lst ((ef4 (17:Int).toNat [V.int 8]).flatten))):=c6.upd_new hl9
   have h2l9:(c9 H1 l9 (.lst ((ef4 (17:Int).toNat [V.int 8]).flatten))) l9=some (.lst ((ef4 17 (8:Int)).map V.int)):=by rw[c7];rfl
   generalize (c9 H1 l9 (.lst ((ef4 (17:Int).toNat [V.int 8]).flatten)))=H2 at s2 h2l9 ⊢
   refine fun xs3 H3 s3 sa3=> ?_
   obtain ⟨as0,rfl,la0,ra0⟩:=bg6 (rs:=[[1,1,1],[0,0,3,3]]) sa0;obtain ⟨as3,rfl,la3,ra3⟩:=bg6 (rs:=[[0,1,0],[0,2,2]]) sa3;have la0:as0.length=2:=la0;have la3:as3.length=2:=la3;refine ⟨by rw[ed6,eg3,ed2,ed2,la0,la3];decide,fun l hl=> ?_⟩;have s03:c6 H H3:=s0.trans (s1.trans (s2.trans s3));have hl0:H l=none:=s03.free hl;have nlg:l≠g:=hg.ne hl0
   have G0:az8 H (c9 H3 l (.lst (as0.map V.ref++V.ref l9::as3.map V.ref))) g l (as0++l9::as3):=by
     have s4:c6 H3 (c9 H3 l (.lst (as0.map V.ref++V.ref l9::as3.map V.ref))):=c6.upd_new hl;refine ⟨(s03.trans s4).but g,(hg.same (s03.trans s4)),by rw[c7,ed8];rfl,fun a ha=> ?_⟩
     have put:∀ns:List Int,H3 a=some (.lst (ns.map V.int))->H a=none->(ns.length<=41/\∀x∈ns,-100<=x/\x<=100)->bp3 (C4 (c9 H3 l (.lst (as0.map V.ref++V.ref l9::as3.map V.ref))) g l) a:=fun ns h h0 b=>
       ⟨ns,O8 (s4 _ _ h) (hg.ne h0) (g7 h hl),b⟩
     rcases ee2.mp ha with z|z
     · obtain ⟨ns,hns,e⟩:=ra0 a z;obtain ⟨m0,m1⟩:=X5 e;refine put ns (s3 _ _ (s2 _ _ (s1 _ _ m1))) m0 ?_;simp only[ee8,et4,or_false] at hns
       rcases hns with rfl|rfl<;>decide
     · rcases ee8.mp z with rfl|z
       · exact put _ (s3 _ _ h2l9) ((s0.trans s1).free hl9) (by decide)
       · obtain ⟨ns,hns,e⟩:=ra3 a z;obtain ⟨m0,m1⟩:=X5 e;refine put ns m1 ((s0.trans (s1.trans s2)).free m0) ?_;simp only[ee8,et4,or_false] at hns
         rcases hns with rfl|rfl<;>decide
   have la5:(as0++l9::as3).length=5:=by rw[ed6,eg3,la0,la3]
   obtain ⟨H4,e4⟩:∃Hn,Hn=c9 H3 l (.lst (as0.map V.ref++V.ref l9::as3.map V.ref)):=⟨_,rfl⟩;rw[<-e4] at G0;generalize as0++l9::as3=as at G0 la5
   have L4:∀{Z:Prop},(H4 l=some (.lst (as.map V.ref))->Z)->Z:=fun f=>f G0.2.2.1
   rw[<-e4];clear e4 sa0 sa3 ra0 ra3;refine ⟨(show 4<=sizeLine by decide),fun t ht=> ?_⟩;have ntg:t≠g:=G0.2.1.ne ht;have ht0:H t=none:=G0.1.free ht ntg;have s5:c6 H4 (c9 H4 t (.tup (([1,2,3,9]:List Int).map V.int))):=c6.upd_new ht
   have h5t:(c9 H4 t (.tup (([1,2,3,9]:List Int).map V.int))) t=some (.tup (([1,2,3,9]:List Int).map V.int)):=by rw[c7]
   have ntl:t≠l:=(g7 G0.2.2.1 ht).symm;have G5:=G0.next nlg (s5.but g) (G0.2.1.same s5);generalize (c9 H4 t (.tup (([1,2,3,9]:List Int).map V.int)))=H5 at s5 h5t G5 ⊢
   refine ⟨t,rfl,⟨_,R6.of h5t⟩,dd3 (K:=K) (a:=t) (xs:=([1,2,3,9]:List Int).map V.int) (fun i σ H6=>∃(as:List Addr) (v3 v4 v5:Option V),σ=[some (.ref g),some (.ref pa),some (.ref l),v3,v4,v5,none,none,none]/\as.length=5+i/\az8 H H6 g l as/\H6 t=some (.tup (([1,2,3,9]:List Int).map V.int)))
     ⟨as,none,none,none,rfl,la5,G5,h5t⟩ (fun i σ H3 _ zz=>by obtain ⟨_,_,_,_,_,_,_,e⟩:=zz;exact R6.of e) ?_ ?_⟩
   · rintro i y σ H6 hi ⟨as,v3,v4,v5,rfl,la,G6,h6t⟩;have il:i < 4:=(ed3.mp hi).1;obtain ⟨my,hmy,rfl⟩:=K7 hi
     have my9:1<=my/\my<=9:=by
       have:∀z∈([1,2,3,9]:List Int),1<=z/\z<=9:=by decide
       exact this my (ee1 hmy)
     have h6p:=G6.1 pa _ tpa npg;refine ⟨_,rfl,pa,_,rfl,.inl (g9.of h6p),fun o ho=> ?_⟩;have s7:c6 H6 (c9 H6 o (.lst (p.map V.int))):=c6.upd_new ho
     have h7o:(c9 H6 o (.lst (p.map V.int))) o=some (.lst (p.map V.int)):=by rw[c7]
     have nog:o≠g:=G6.2.1.ne ho;generalize (c9 H6 o (.lst (p.map V.int)))=H7 at s7 h7o ⊢;refine ⟨_,rfl,_,rfl,(show 0<=sizeLine by decide),fun z hz=> ?_⟩;have s8:c6 H7 (c9 H7 z (.lst [])):=c6.upd_new hz
     have h8z:(c9 H7 z (.lst [])) z=some (.lst []):=by rw[c7]
     generalize (c9 H7 z (.lst []))=H8 at s8 h8z ⊢;refine ⟨pa,z,_,_,_,rfl,rfl,g9.of (s8 _ _ (s7 _ _ h6p)),g9.of h8z,bm4 K H8 0 _,_,rfl,?_⟩;obtain ⟨bz,hbz⟩:∃b:Int,b=(if (!(p.map V.int).isEmpty)=true then 1 else 0):=⟨_,rfl⟩
     have bz01:(p=[]/\bz=0)\/(0 < p.length/\bz=1):=by
       cases p with
       |nil=>exact .inl ⟨rfl,hbz⟩
       |cons a r=>exact .inr ⟨Nat.zero_lt_succ _,hbz⟩
     show rI cl1 (fun i j=>V.int (i*j)) (V.int my) (.int (if (!(p.map V.int).isEmpty)=true then 1 else 0)) H8 _;rw[<-hbz];obtain ⟨cnt,hcnt⟩:∃c:Int,c=my*bz:=⟨_,rfl⟩
     have cn:(p=[]/\cnt=0)\/(0 < p.length/\0<=cnt/\cnt<=9):=by
       rcases bz01 with ⟨e,z⟩|⟨e,z⟩
       · exact .inl ⟨e,by rw[hcnt,z,Int.mul_zero]⟩
       · exact .inr ⟨e,by rw[hcnt,z,ex8];omega,by rw[hcnt,z,ex8];omega⟩
     refine ⟨_,_,rfl,rfl,.inl ⟨by omega,by omega⟩,?_⟩;have s68:c6 H6 H8:=s7.trans s8
     refine ⟨cnt,by rw[hcnt],by omega,by omega,G7 (lo:=0) (n:=cnt.toNat) (fun j σ H9=>∃(os:List Int) (v5':Option V),σ=[some (.ref g),some (.ref pa),some (.ref l),some (.int my),some (.ref o),v5',none,none,none]/\H9 o=some (.lst (os.map V.int))/\os.length=p.length/\(∀x∈os,-100<=x/\x<=100)/\A0 H9 g/\j5 g H6 H9)
       ⟨p,v5,rfl,s8 _ _ h7o,rfl,fun x hx=>by have:=tp.2.1.lo x hx;have:=tp.2.1.hi x hx;omega,G6.2.1.same s68,s68.but g⟩ ?_ ?_⟩
     · rintro j σ H9 hj ⟨os,v5',rfl,h9o,lo,bo,D9,kb9⟩
       have pl:0 < p.length:=by rcases cn with ⟨e,z⟩|⟨e,_⟩<;>omega
       refine ⟨_,rfl,g,rfl,D9,fun r1 H10 r10 D10 kb10=> ?_⟩;have h10p:H10 pa=some (.lst (p.map V.int)):=kb10 _ _ (kb9 _ _ h6p npg) npg;refine ⟨_,rfl,pa,_,rfl,.inl (g9.of h10p),_,_,rfl,rfl,(by rw[ed2];omega),?_⟩;refine ⟨_,rfl,_,rfl,g,rfl,D10,fun r2 H11 r20 D11 kb11=> ?_⟩;have h11p:=kb11 _ _ h10p npg;have h11o:=kb11 _ _ (kb10 _ _ h9o nog) nog;refine ⟨_,rfl,pa,_,rfl,.inl (g9.of h11p),_,_,rfl,rfl,(by rw[ed2];omega),?_⟩;have a1:=eh6 r1 (show ((p.length:Nat):Int)≠0 by omega);have a2:=ei7 r1 (show (0:Int) < ((p.length:Nat):Int) by omega);have b1:=eh6 r2 (show ((p.length:Nat):Int)≠0 by omega);have b2:=ei7 r2 (show (0:Int) < ((p.length:Nat):Int) by omega);have el:(p.map V.int).length=p.length:=ed2 ..;rw[el];refine ⟨o,_,_,(r2%(p.length:Int)).toNat,rfl,rfl,h11o,?_,?_⟩
       · unfold ixN;rw[ed2,lo,if_pos b1,if_pos b2]
       · refine ⟨os.set (r2%(p.length:Int)).toNat (r1%(p.length:Int)),_,rfl,by rw[c7,es6],by rw[en9];exact lo,fun x hx=> ?_,D11.upd nog.symm,((kb9.trans kb10).trans kb11).upd_r ho⟩
         rcases List.mem_or_eq_of_mem_set hx with z|z
         · exact bo x z
         · omega
     · rintro σ H9 ⟨os,v5',rfl,h9o,lo,bo,D9,kb9⟩;have G9:=G6.next nlg kb9 D9;have nol:o≠l:=(g7 G6.2.2.1 ho).symm;refine ⟨_,rfl,.inl ⟨rfl,_,g9.of G9.2.2.1⟩,_,rfl,l,_,_,rfl,rfl,G9.2.2.1,m8 (by rw[ed2];omega),?_⟩;refine ⟨as++[o],_,_,_,rfl,by rw[ed6,la];rfl,G9.app nlg hl0 ⟨os,O8 h9o nog nol,by omega,bo⟩,?_⟩;rw[g8 ntl];exact kb9 _ _ h6t ntg
   · rintro σ H6 ⟨as,v3,v4,v5,rfl,la,G6,h6t⟩;have la:as.length=9:=la;have h6p:=G6.1 pa _ tpa npg;refine ⟨_,rfl,.inl ⟨rfl,_,g9.of G6.2.2.1⟩,?_⟩
     refine ⟨_,rfl,pa,rfl,⟨_,g9.of h6p⟩,ah4 (K:=K) (a:=pa) (xs:=p.map V.int) (fun i ys σ H7=>∃(v:Option V) (os:List Int),σ=[v,some (.ref g),some (.ref pa)]/\ys=os.map V.int/\os.length=i/\(∀x∈os,-100<=x/\x<=100)/\A0 H7 g/\j5 g H6 H7)
       ⟨none,[],rfl,rfl,rfl,(fun x hx=>by cases hx),G6.2.1,j5.refl g H6⟩ (fun i ys σ H7 _ zz=>by obtain ⟨_,_,_,_,_,_,_,k⟩:=zz;exact g9.of (k _ _ h6p npg)) ?_ ?_⟩
     · rintro i x ys σ H7 hi ⟨v,os,rfl,rfl,lo,bo,D7,kb7⟩
       have il:i < p.length:=by have:=(ed3.mp hi).1;rw[ed2] at this;exact this
       refine ⟨_,rfl,g,rfl,D7,fun r1 H8 r10 D8 kb8=> ?_⟩;have h8p:=kb8 _ _ (kb7 _ _ h6p npg) npg;have el:(p.map V.int).length=p.length:=ed2 ..;refine ⟨_,rfl,pa,_,rfl,.inl (g9.of h8p),_,_,rfl,rfl,(by rw[el];omega),m8 (by rw[ed2];omega),?_⟩;rw[el];have a1:=eh6 r1 (show ((p.length:Nat):Int)≠0 by omega);have a2:=ei7 r1 (show (0:Int) < ((p.length:Nat):Int) by omega);refine ⟨_,os++[r1%(p.length:Int)],rfl,by rw[ed8];rfl,by rw[ed6,lo];rfl,fun x hx=> ?_,D8,kb7.trans kb8⟩
       rcases ee2.mp hx with z|z
       · exact bo x z
       · rw[ee3.mp z];omega
     · rintro ys σ H7 ⟨v,os,rfl,rfl,lo,bo,D7,kb7⟩ o ho;rw[ed2] at lo;have s8:c6 H7 (c9 H7 o (.lst (os.map V.int))):=c6.upd_new ho
       have h8o:(c9 H7 o (.lst (os.map V.int))) o=some (.lst (os.map V.int)):=by rw[c7]
       generalize (c9 H7 o (.lst (os.map V.int)))=H8 at s8 h8o ⊢;have nog:o≠g:=D7.ne ho;have G8:=G6.next nlg (kb7.trans (s8.but g)) (D7.same s8)
       have nol:o≠l:=fun z=>by rw[z,kb7 _ _ G6.2.2.1 nlg] at ho;cases ho
       refine ⟨l,_,_,rfl,rfl,G8.2.2.1,m8 (by rw[ed2];omega),?_⟩;have G9:=G8.app nlg hl0 ⟨os,O8 h8o nog nol,by omega,bo⟩;generalize (c9 H8 l (.lst (as.map V.ref++[.ref o])))=H9 at G9 ⊢
       have la9:(as++[o]).length=10:=by rw[ed6,la];rfl
       generalize as++[o]=as9 at G9 la9;clear h8o G8 G6 h6t h6p;have h9p:=G9.1 pa _ tpa npg;refine ⟨_,rfl,g,rfl,G9.2.1,fun r1 H10 r10 D10 kb10=> ?_⟩;have h10p:=kb10 _ _ h9p npg;refine ⟨_,rfl,pa,_,rfl,.inl (g9.of h10p),_,_,rfl,_,_,rfl,rfl,(by rw[ed2];split<;>omega),?_⟩;obtain ⟨at1,hat1⟩:∃z:Int,z=r1%(if ((p.map V.int).length:Int) > 1 then ((p.map V.int).length:Int) else 1):=⟨_,rfl⟩;show t9 _ _ _ ([some (.ref g),some (.ref pa),some (.ref l),v3,v4,v5,some (.int (r1%(if ((p.map V.int).length:Int) > 1 then ((p.map V.int).length:Int) else 1))),none,none]) H10;rw[<-hat1];refine ⟨_,rfl,g,rfl,D10,fun r2 H11 r20 D11 kb11=> ?_⟩;have h11p:=kb11 _ _ h10p npg;refine ⟨_,rfl,pa,_,rfl,.inl (g9.of h11p),_,_,rfl,_,_,rfl,rfl,(by rw[ed2];split<;>omega),?_⟩;obtain ⟨at2,hat2⟩:∃z:Int,z=r2%(if ((p.map V.int).length:Int) > 1 then ((p.map V.int).length:Int) else 1):=⟨_,rfl⟩;show t9 _ _ _ ([some (.ref g),some (.ref pa),some (.ref l),v3,v4,v5,some (.int at1),some (.int (r2%(if ((p.map V.int).length:Int) > 1 then ((p.map V.int).length:Int) else 1))),none]) H11;rw[<-hat2];have G11:=G9.next nlg (kb10.trans kb11) D11;clear G9 D10 D11 kb10 kb11 h10p h9p hat1 hat2;refine ⟨_,rfl,.inl ⟨rfl,_,g9.of G11.2.2.1⟩,?_⟩
       refine ⟨_,rfl,pa,rfl,⟨_,g9.of h11p⟩,cs6 (K:=K) (a:=pa) (xs:=p.map V.int) (fun i ys σ H7=>∃(v u:Option V) (os:List Int),σ=[v,u,some (.int at2),some (.int at1)]/\ys=os.map V.int/\os.length=i/\(∀x∈os,-100<=x/\x<=100)/\c6 H11 H7)
         ⟨none,none,[],rfl,rfl,rfl,(fun x hx=>by cases hx),c6.refl H11⟩ (fun i ys σ H7 _ zz=>by obtain ⟨_,_,_,_,_,_,_,k⟩:=zz;exact g9.of (k _ _ h11p)) ?_ ?_⟩
       · rintro i x ys σ H12 t2 hi ⟨v,u,os,rfl,rfl,lo,bo,s12⟩ ht2;obtain ⟨z,hz,rfl⟩:=K7 hi;have zp:=ee1 hz;refine ⟨t2,_,rfl,R6.of c7,rfl,_,_,rfl,_,_,rfl,rfl,?_⟩;have s13:c6 H12 (c9 H12 t2 (.tup [.int (i:Int),.int z])):=c6.upd_new ht2;generalize (c9 H12 t2 (.tup [.int (i:Int),.int z]))=H13 at s13 ⊢;refine ⟨_,rfl,_,rfl,_,rfl,rfl,_,rfl,_,_,rfl,rfl,?_⟩;refine ⟨_,rfl,_,rfl,rfl,_,rfl,_,_,rfl,rfl,m8 (by rw[ed2];have:=(ed3.mp hz).1;omega),?_⟩;refine ⟨_,_,os++[_],rfl,by rw[ed8];rfl,by rw[ed6,lo];rfl,fun x hx=> ?_,s12.trans s13⟩
         rcases ee2.mp hx with y|y
         · exact bo x y
         · rw[ee3.mp y];have z0:=tp.2.1.lo z zp;have z1:=tp.2.1.hi z zp
           split<;>split<;>omega
       · rintro ys σ H12 ⟨v,u,os,rfl,rfl,lo,bo,s12⟩ o ho;rw[ed2] at lo;have s13:c6 H12 (c9 H12 o (.lst (os.map V.int))):=c6.upd_new ho
         have h13o:(c9 H12 o (.lst (os.map V.int))) o=some (.lst (os.map V.int)):=by rw[c7]
         generalize (c9 H12 o (.lst (os.map V.int)))=H13 at s13 h13o ⊢;have G13:=G11.next nlg ((s12.trans s13).but g) (G11.2.1.same (s12.trans s13));have nog:o≠g:=G11.2.1.ne (s12.free ho)
         have nol:o≠l:=fun z=>by rw[z,s12 _ _ G11.2.2.1] at ho;cases ho
         refine ⟨l,_,_,rfl,rfl,G13.2.2.1,m8 (by rw[ed2];omega),?_⟩;have G14:=G13.app nlg hl0 ⟨os,O8 h13o nog nol,by omega,bo⟩;generalize (c9 H13 l (.lst (as9.map V.ref++[.ref o])))=H14 at G14 ⊢
         have la14:(as9++[o]).length=11:=by rw[ed6,la9];rfl
         generalize as9++[o]=as14 at G14 la14;clear h13o G13 G11 h11p
         refine ⟨_,rfl,l,rfl,⟨_,g9.of G14.2.2.1⟩,ah4 (K:=K) (a:=l) (xs:=as14.map V.ref) (fun i ys σ H15=>∃(v:Option V) (bs:List Addr),σ=[v]/\ys=bs.map V.ref/\bs.length<=i/\c6 H14 H15/\∀b∈bs,∃ns:List Int,C4 H14 g l b=some (.lst (ns.map V.int))/\ns.length<=41/\(∀x∈ns,-100<=x/\x<=100)/\¬E6 ns)
           ⟨none,[],rfl,rfl,ef5 _,c6.refl H14,fun b hb=>by cases hb⟩ (fun i ys σ H15 _ zz=>by obtain ⟨_,_,_,_,_,k,_⟩:=zz;exact g9.of (k _ _ G14.2.2.1)) ?_ ?_⟩
         · rintro i x ys σ H15 hi ⟨v,bs,rfl,rfl,lb,s15,rb⟩;rw[ed9] at hi
           cases hB:as14[i]? with
           |none=>rw[hB] at hi;cases hi
           |some b=>
            rw[hB] at hi;cases hi
            have il:i < 11:=by rw[<-la14];exact (ed3.mp hB).1
            obtain ⟨ns,hns,ln,bn⟩:=G14.2.2.2 b (ee1 hB);have h14b:=(U6 hns).1;have h15b:=s15 _ _ h14b;refine ⟨_,rfl,b,ns,rfl,g9.of h15b,by omega,fun ms m1 pm so hm1=> ?_⟩;have s16:c6 H15 (c9 H15 m1 (.lst (ms.map V.int))):=c6.upd_new hm1
            have h16m:(c9 H15 m1 (.lst (ms.map V.int))) m1=some (.lst (ms.map V.int)):=by rw[c7]
            generalize (c9 H15 m1 (.lst (ms.map V.int)))=H16 at s16 h16m ⊢;refine ⟨_,rfl,b,_,rfl,.inl (g9.of (s16 _ _ h15b)),_,rfl,fun r1 hr1=> ?_⟩;have s17:c6 H16 (c9 H16 r1 (.rng 0 ((ns.map V.int).length:Int))):=c6.upd_new hr1
            have h17r:(c9 H16 r1 (.rng 0 ((ns.map V.int).length:Int))) r1=some (.rng 0 ((ns.map V.int).length:Int)):=by rw[c7]
            generalize (c9 H16 r1 (.rng 0 ((ns.map V.int).length:Int)))=H17 at s17 h17r ⊢;have el:(ns.map V.int).length=ns.length:=ed2 ..;refine ⟨r1,_,_,rfl,h17r,⟨by omega,by omega,by omega,by omega⟩,by omega,fun m2 hm2=> ?_⟩;have s18:c6 H17 (c9 H17 m2 (.lst ((P0 0 ns.length).map V.int))):=c6.upd_new hm2
            have h18m:(c9 H17 m2 (.lst ((P0 0 ns.length).map V.int))) m2=some (.lst ((P0 0 ns.length).map V.int)):=by rw[c7]
            have eu:(((ns.map V.int).length:Int) - 0).toNat=ns.length:=by omega
            rw[eu];generalize (c9 H17 m2 (.lst ((P0 0 ns.length).map V.int)))=H18 at s18 h18m ⊢;have s1518:=(s16.trans s17).trans s18;refine ⟨m1,m2,_,_,_,rfl,rfl,g9.of (s18 _ _ (s17 _ _ h16m)),g9.of h18m,X2 K H18 0 ms (P0 0 ns.length),_,rfl,?_⟩
            by_cases hq:ms=P0 0 ns.length
            · rw[decide_eq_true hq];exact y7 ⟨_,bs,rfl,rfl,by omega,s15.trans s1518,rb⟩
            · rw[decide_eq_false hq];refine J8 ⟨_,rfl,m8 (by rw[ed2];omega),_,bs++[b],rfl,by rw[ed8];rfl,by rw[ed6];exact et0 lb,s15.trans s1518,fun c hc=> ?_⟩
              rcases ee2.mp hc with y|y
              · exact rb c y
              · rw[ee3.mp y];exact ⟨ns,hns,ln,bn,fun t=>hq (cw8 pm so t)⟩
         · rintro ys σ H15 ⟨v,bs,rfl,rfl,lb,s15,rb⟩ l2 hl2;rw[ed2,la14] at lb;have nl2g:l2≠g:=(G14.2.1.same s15).ne hl2;have k15:j5 g H H15:=G14.1.trans (s15.but g);have hl20:H l2=none:=k15.free hl2 nl2g;obtain ⟨H16,e16⟩:∃Hn,Hn=c9 H15 l2 (.lst (bs.map V.ref)):=⟨_,rfl⟩;have s16:c6 H15 H16:=e16▸c6.upd_new hl2
           have h16l:H16 l2=some (.lst (bs.map V.ref)):=by rw[e16,c7]
           have k16:j5 g H H16:=k15.trans (s16.but g);have D16:A0 H16 g:=G14.2.1.same (s15.trans s16)
           have B16:B7 K (C4 H16 g l2) (bs.map V.ref):=fun v hv=>by
             obtain ⟨b,hb,rfl⟩:=ee5.mp hv;obtain ⟨ns,hns,ln,bn,nt⟩:=rb b hb;have:C4 H16 g l2 b=some (.lst (ns.map V.int)):=dl9 (l:=l) ((s15.trans s16).but g) (s15.free hl2) _ _ hns;exact cc2 this (fun _=>nt) (by omega) (fun x hx=>by have:=bn x hx;omega)
           rw[<-e16];clear e16;have h16p:=k16 _ _ tpa npg;refine ⟨_,rfl,_,rfl,_,rfl,pa,_,rfl,.inl (g9.of h16p),_,_,rfl,rfl,_,_,rfl,rfl,⟨by decide,by decide,by decide⟩,_,rfl,_,rfl,pa,_,rfl,.inl (g9.of h16p),_,_,rfl,rfl,fun xs H17 s17 sa=> ?_⟩
           have hm17:c6 (ae9 H16 H17) (C4 H17 g l2):=by
             obtain ⟨o,e⟩:=D16.some;exact ai0 e h16l
           have lxs:xs.length=7:=sa.length;have items:=bs8 (K:=K) (n:=p.length) p40 sa (by decide+kernel);have el:(p.map V.int).length=p.length:=ed2 ..;refine ⟨by simp only[eg3,lxs];decide,fun lo hlo=> ?_⟩;obtain ⟨os,hos⟩:∃os:List V,os=V.int (-1)::V.int (-1 - ((p.map V.int).length:Int))::V.int (-(10^(20:Int).toNat))::V.int (((p.map V.int).length:Int)+1)::xs:=⟨_,rfl⟩;obtain ⟨H18,e18⟩:∃Hn,Hn=c9 H17 lo (.lst os):=⟨_,rfl⟩;have s18:c6 H17 H18:=e18▸c6.upd_new hlo;have k18:j5 g H H18:=k16.trans ((s17.trans s18).but g);have D18:A0 H18 g:=D16.same (s17.trans s18);have nlog:lo≠g:=(D16.same s17).ne hlo
           have nlol:lo≠l2:=fun z=>by rw[z,s17 _ _ h16l] at hlo;cases hlo
           have h18lo:C4 H18 g l2 lo=some (.lst os):=O8 (by rw[e18,c7]) nlog nlol
           have los:os.length=11:=by rw[hos];simp only[eg3,lxs]
           have it18:∀y∈os,ab8 K (C4 H18 g l2) p.length y:=fun y hy=>by
             rw[hos] at hy
             have small:∀i:Int,(i < 0\/(p.length:Int)+1<=i)-> -10000000000000000000000000000000000000000<=i->i<=10000000000000000000000000000000000000000->ab8 K (C4 H18 g l2) p.length (.int i):=fun i h h1 h2=>⟨.inl ⟨i,rfl⟩,(fun j e=>by cases e;exact h),cc0 h1 h2⟩
             simp only[ee8] at hy
             rcases hy with rfl|rfl|rfl|rfl|hy
             · exact small _ (.inl (by decide)) (by decide) (by decide)
             · exact small _ (.inl (by omega)) (by omega) (by omega)
             · exact small _ (.inl (by decide)) (by decide) (by decide)
             · exact small _ (.inr (by omega)) (by omega) (by omega)
             · exact ((items y hy).keep hm17).keep (G2 (s18.but g))
           have h18l:H18 l2=some (.lst (bs.map V.ref)):=s18 _ _ (s17 _ _ h16l);have B18:B7 K (C4 H18 g l2) (bs.map V.ref):=B16.keep (G2 ((s17.trans s18).but g));rw[<-hos,<-e18];clear e18 hos items hm17 sa s17 s18
           refine ⟨lo,rfl,⟨_,g9.of (U6 h18lo).1⟩,G4 (K:=K) (a:=lo) (xs:=os) (fun i σ H19=>∃(v6 v8:Option V) (vs:List V),σ=[some (.ref g),some (.ref pa),some (.ref l2),v3,v4,v5,v6,some (.int at2),v8]/\j5 g H H19/\A0 H19 g/\H19 l2=some (.lst vs)/\vs.length<=11+i/\B7 K (C4 H19 g l2) vs/\c6 (C4 H18 g l2) (C4 H19 g l2))
             ⟨_,none,_,rfl,k18,D18,h18l,by rw[ed2];exact lb,B18,c6.refl _⟩ (fun i σ H19 _ zz=>by obtain ⟨_,_,_,_,_,_,_,_,_,k⟩:=zz;exact g9.of (U6 (k _ _ h18lo)).1) ?_ ?_⟩
           · rintro i y σ H19 hi ⟨v6,v8,vs,rfl,k19,D19,h19l,lv,B19,s19⟩
             have il:i < 11:=by rw[<-los];exact (ed3.mp hi).1
             have oy:=(it18 y (ee1 hi)).keep s19;refine ⟨_,rfl,g,rfl,D19,fun r1 H20 r10 D20 kb20=> ?_⟩;have k20:=k19.trans kb20;have h20p:=k20 _ _ tpa npg;refine ⟨_,rfl,pa,_,rfl,.inl (g9.of h20p),_,_,rfl,_,_,rfl,rfl,(by rw[ed2];split<;>omega),?_⟩;obtain ⟨ix,hix⟩:∃z:Int,z=r1%(if ((p.map V.int).length:Int) > 1 then ((p.map V.int).length:Int) else 1):=⟨_,rfl⟩
             have ixb:0<=ix/\ix<=(p.length:Int):=by
               rw[ed2] at hix
               by_cases z:(p.length:Int) > 1
               · rw[if_pos z] at hix;have a1:=eh6 r1 (show ((p.length:Nat):Int)≠0 by omega);have a2:=ei7 r1 (show (0:Int) < ((p.length:Nat):Int) by omega);omega
               · rw[if_neg z] at hix;omega
             show bh6 6 (V.int (r1%(if ((p.map V.int).length:Int) > 1 then ((p.map V.int).length:Int) else 1))) _ _ _;rw[<-hix];clear hix;obtain ⟨ixn,rfl⟩:=em2 ixb.1
             have ixl:ixn<=p.length:=by omega
             have h20l:=kb20 _ _ h19l nl2g;refine ⟨_,rfl,.inl ⟨rfl,_,g9.of h20l⟩,?_⟩
             have hpb:∀x∈p,0<=x/\x<=100:=fun x hx=>by have:=tp.2.1.lo x hx;have:=tp.2.1.hi x hx;omega
             have cl:=fun (lo hi:Option Int)=>bd2 (p.map V.int) lo hi
             rw[ed2] at cl;refine ⟨_,rfl,_,rfl,_,rfl,pa,_,rfl,g9.of h20p,fun c1 hc1=> ?_⟩;have s21:c6 H20 (c9 H20 c1 (.lst (w5 (p.map V.int) none (some (ixn:Int))))):=c6.upd_new hc1
             have h21:(c9 H20 c1 (.lst (w5 (p.map V.int) none (some (ixn:Int))))) c1=some (.lst (w5 (p.map V.int) none (some (ixn:Int)))):=by rw[c7]
             generalize (c9 H20 c1 (.lst (w5 (p.map V.int) none (some (ixn:Int)))))=H21 at s21 h21 ⊢;refine ⟨_,rfl,(show 1<=sizeLine by decide),fun c2 hc2=> ?_⟩;have s22:c6 H21 (c9 H21 c2 (.lst [y])):=c6.upd_new hc2
             have h22:(c9 H21 c2 (.lst [y])) c2=some (.lst [y]):=by rw[c7]
             generalize (c9 H21 c2 (.lst [y]))=H22 at s22 h22 ⊢;refine ⟨c1,c2,_,_,rfl,rfl,s22 _ _ h21,h22,eh1 (m8 (by have:=cl none (some (ixn:Int));rw[ej7];omega)),fun c3 hc3=> ?_⟩;have s23:c6 H22 (c9 H22 c3 (.lst (w5 (p.map V.int) none (some (ixn:Int))++[y]))):=c6.upd_new hc3
             have h23:(c9 H22 c3 (.lst (w5 (p.map V.int) none (some (ixn:Int))++[y]))) c3=some (.lst (w5 (p.map V.int) none (some (ixn:Int))++[y])):=by rw[c7]
             generalize (c9 H22 c3 (.lst (w5 (p.map V.int) none (some (ixn:Int))++[y])))=H23 at s23 h23 ⊢;have h23p:=s23 _ _ (s22 _ _ (s21 _ _ h20p));refine ⟨_,rfl,_,rfl,_,_,rfl,rfl,_,rfl,pa,_,rfl,g9.of h23p,fun c4 hc4=> ?_⟩;have s24:c6 H23 (c9 H23 c4 (.lst (w5 (p.map V.int) (some ((ixn:Int)+1)) none))):=c6.upd_new hc4
             have h24:(c9 H23 c4 (.lst (w5 (p.map V.int) (some ((ixn:Int)+1)) none))) c4=some (.lst (w5 (p.map V.int) (some ((ixn+1:Nat):Int)) none)):=by rw[c7];rfl
             generalize (c9 H23 c4 (.lst (w5 (p.map V.int) (some ((ixn:Int)+1)) none)))=H24 at s24 h24 ⊢;refine ⟨c3,c4,_,_,rfl,rfl,s24 _ _ h23,h24,eh1 (m8 (by have:=cl none (some (ixn:Int));have:=cl (some ((ixn+1:Nat):Int)) none;rw[ed6,ej7];omega)),fun c5 hc5=> ?_⟩;have s25:c6 H24 (c9 H24 c5 (.lst (w5 (p.map V.int) none (some (ixn:Int))++[y]++w5 (p.map V.int) (some ((ixn+1:Nat):Int)) none))):=c6.upd_new hc5
             have h25:(c9 H24 c5 (.lst (w5 (p.map V.int) none (some (ixn:Int))++[y]++w5 (p.map V.int) (some ((ixn+1:Nat):Int)) none))) c5=some (.lst (w5 (p.map V.int) none (some (ixn:Int))++[y]++w5 (p.map V.int) (some ((ixn+1:Nat):Int)) none)):=by rw[c7]
             generalize (c9 H24 c5 (.lst (w5 (p.map V.int) none (some (ixn:Int))++[y]++w5 (p.map V.int) (some ((ixn+1:Nat):Int)) none)))=H25 at s25 h25 ⊢;have s2025:c6 H20 H25:=((s21.trans s22).trans s23).trans (s24.trans s25);refine ⟨_,rfl,_,rfl,_,rfl,pa,_,rfl,g9.of (s2025 _ _ h20p),fun d1 hd1=> ?_⟩;have s26:c6 H25 (c9 H25 d1 (.lst (w5 (p.map V.int) none (some (ixn:Int))))):=c6.upd_new hd1
             have h26:(c9 H25 d1 (.lst (w5 (p.map V.int) none (some (ixn:Int))))) d1=some (.lst (w5 (p.map V.int) none (some (ixn:Int)))):=by rw[c7]
             generalize (c9 H25 d1 (.lst (w5 (p.map V.int) none (some (ixn:Int)))))=H26 at s26 h26 ⊢;refine ⟨_,rfl,(show 1<=sizeLine by decide),fun d2 hd2=> ?_⟩;have s27:c6 H26 (c9 H26 d2 (.lst [y])):=c6.upd_new hd2
             have h27:(c9 H26 d2 (.lst [y])) d2=some (.lst [y]):=by rw[c7]
             generalize (c9 H26 d2 (.lst [y]))=H27 at s27 h27 ⊢;refine ⟨d1,d2,_,_,rfl,rfl,s27 _ _ h26,h27,eh1 (m8 (by have:=cl none (some (ixn:Int));rw[ej7];omega)),fun d3 hd3=> ?_⟩;have s28:c6 H27 (c9 H27 d3 (.lst (w5 (p.map V.int) none (some (ixn:Int))++[y]))):=c6.upd_new hd3
             have h28:(c9 H27 d3 (.lst (w5 (p.map V.int) none (some (ixn:Int))++[y]))) d3=some (.lst (w5 (p.map V.int) none (some (ixn:Int))++[y])):=by rw[c7]
             generalize (c9 H27 d3 (.lst (w5 (p.map V.int) none (some (ixn:Int))++[y])))=H28 at s28 h28 ⊢;have h28p:=s28 _ _ (s27 _ _ (s26 _ _ (s2025 _ _ h20p)));refine ⟨_,rfl,_,rfl,_,rfl,pa,_,rfl,g9.of h28p,fun d4 hd4=> ?_⟩;have s29:c6 H28 (c9 H28 d4 (.lst (w5 (p.map V.int) (some (ixn:Int)) none))):=c6.upd_new hd4
             have h29:(c9 H28 d4 (.lst (w5 (p.map V.int) (some (ixn:Int)) none))) d4=some (.lst (w5 (p.map V.int) (some (ixn:Int)) none)):=by rw[c7]
             generalize (c9 H28 d4 (.lst (w5 (p.map V.int) (some (ixn:Int)) none)))=H29 at s29 h29 ⊢;refine ⟨d3,d4,_,_,rfl,rfl,s29 _ _ h28,h29,eh1 (m8 (by have:=cl none (some (ixn:Int));have:=cl (some (ixn:Int)) none;rw[ed6,ej7];omega)),fun d5 hd5=> ?_⟩;have s30:c6 H29 (c9 H29 d5 (.lst (w5 (p.map V.int) none (some (ixn:Int))++[y]++w5 (p.map V.int) (some (ixn:Int)) none))):=c6.upd_new hd5
             have h30:(c9 H29 d5 (.lst (w5 (p.map V.int) none (some (ixn:Int))++[y]++w5 (p.map V.int) (some (ixn:Int)) none))) d5=some (.lst (w5 (p.map V.int) none (some (ixn:Int))++[y]++w5 (p.map V.int) (some (ixn:Int)) none)):=by rw[c7]
             generalize (c9 H29 d5 (.lst (w5 (p.map V.int) none (some (ixn:Int))++[y]++w5 (p.map V.int) (some (ixn:Int)) none)))=H30 at s30 h30 ⊢;have s2530:c6 H25 H30:=((s26.trans s27).trans s28).trans (s29.trans s30);have h30c:=s2530 _ _ h25;have s2030:=s2025.trans s2530;have nc5:H20 c5=none:=(((s21.trans s22).trans s23).trans s24).free hc5;have nd5:H20 d5=none:=(s2025.trans (((s26.trans s27).trans s28).trans s29)).free hd5;refine ⟨(show 2<=sizeLine by decide),fun ee hee=> ?_⟩;have s31:c6 H30 (c9 H30 ee (.lst [V.ref c5,V.ref d5])):=c6.upd_new hee
             have h31e:(c9 H30 ee (.lst [V.ref c5,V.ref d5])) ee=some (.lst [V.ref c5,V.ref d5]):=by rw[c7]
             generalize (c9 H30 ee (.lst [V.ref c5,V.ref d5]))=H31 at s31 h31e ⊢;have D31:A0 H31 g:=D20.same (s2030.trans s31);have neg:ee≠g:=(D20.same s2030).ne hee;refine ⟨_,rfl,g,rfl,D31,fun r2 H32 r20 D32 kb32=> ?_⟩;refine ⟨_,_,rfl,rfl,(show (0:Int) < 2 by decide),?_⟩;have h32e:=kb32 _ _ h31e neg;have k2032:j5 g H20 H32:=((s2030.trans s31).but g).trans kb32
             have key:∃c xs,atI [V.ref c5,V.ref d5] (r2%2)=some (.ref c)/\H32 c=some (.lst xs)/\H20 c=none/\(∀x∈xs,(∃i:Int,x= .int i/\0<=i/\i<=100)\/x=y)/\y∈xs/\xs.length<=p.length+1:=by
               rcases (show r2%2=0\/r2%2=1 by omega) with e|e
               · rw[e];exact ⟨c5,_,S4 (j:=0) rfl,kb32 _ _ (s31 _ _ h30c) (D20.ne nc5),nc5,bd9 hpb (eq7 _) ixl⟩
               · rw[e];exact ⟨d5,_,S4 (j:=1) rfl,kb32 _ _ (s31 _ _ h30) (D20.ne nd5),nd5,bd9 hpb (ed5 _) ixl⟩
             obtain ⟨c,zs,hat,h32c,nc,z1,z2,z3⟩:=key;refine ⟨ee,_,_,_,rfl,rfl,g9.of h32e,hat,?_⟩;have h32l:=k2032 _ _ h20l nl2g;refine ⟨l2,_,_,rfl,rfl,h32l,m8 (by omega),?_⟩;have sh:c6 (C4 H19 g l2) (C4 (c9 H32 l2 (.lst (vs++[.ref c]))) g l2):=(G2 (kb20.trans k2032)).trans cc3;refine ⟨_,_,vs++[.ref c],rfl,(k20.trans k2032).upd_r hl20,D32.upd nl2g.symm,c7,by rw[ed6,ej7];omega,fun v hv=> ?_,s19.trans sh⟩
             rcases ee2.mp hv with z|z
             · exact (B19.keep sh) v z
             · rw[ee3.mp z];have ncl:c≠l2:=(g7 h20l nc).symm;exact dm0 (O8 (by rw[g8 ncl];exact h32c) (D20.ne nc) ncl) z1 z2 z3 p40 (oy.keep sh)
           · rintro σ H19 ⟨v6,v8,vs,rfl,k19,D19,h19l,lv,B19,s19⟩;exact ⟨_,rfl,q l2 vs H19 hl20 k19 D19 h19l (by omega) (B19.keep dl8)⟩
def dd7:PyData->Bool
 | .none| .bool _| .int _| .str _| .tuple _| .list _=>true
 |_=>false
def bl0:List PyData->Option (List Int)
 |[]=>some []
 | .int i::r=>(bl0 r).map (i:: ·)
 |_::_=>none
def dt0 (ns:List Int):Bool:=decide (ns.Nodup/\∀x∈ns,0<=x/\x < (ns.length:Int))
def bp4:PyData->Bool
 | .none| .bool _| .int _| .str _| .tuple _=>true
 | .list ds=>ds.all dd7&&(match bl0 ds with
   |some ns=> !dt0 ns
   |none=>true)
 |_=>false
theorem bl1 {H:Hp}:∀{p:List Int} {ds:List PyData},P1 H (p.map V.int) ds->bl0 ds=some p
 |[],ds,h=>by cases h;rfl
 |i::p,ds,h=>by
  cases h with
  |cons h1 h2=>
   cases h1;simp only[bl0,bl1 h2,Option.map]
theorem be0 {H:Hp}:∀{xs:List V} {ds:List PyData},P1 H xs ds->∀x∈xs,(∃i:Int,x= .int i)\/af8 K H x
 |_,_,.nil,x,hx=>by cases hx
 |_,_,.cons h hs,x,hx=>by
  rcases ee8.mp hx with z|z
  · rw[z];exact bs7 h
  · exact be0 hs x z
theorem dd8 {H:Hp}{v:V}{d:PyData}(h:Sh H v d)(n:bp4 d=true):E3 K H v:=by
 cases h with
 |non=>exact .inl ⟨_,.non,bu5 K⟩
 |bl b=>exact .inl ⟨_,.bl b,bu9 K⟩
 |int i=>exact .inl ⟨_,.int i,ca1 K⟩
 |str x=>exact .inl ⟨_,.str x,bz9 K⟩
 |tup e _=>exact .inl ⟨_,.tup e,bn6 K⟩
 |lst e hx=>
  refine .inr ⟨_,_,rfl,e,be0 hx,fun p ep _ t=> ?_⟩;rw[ep] at hx;simp only[bp4,bl1 hx,eg7,Bool.not_eq_true'] at n;have:=n.2;unfold dt0 at this;exact of_decide_eq_false this ⟨t.nd,fun x hx=>⟨t.lo x hx,t.hi x hx⟩⟩
def okD (d:PyData):Bool:=bp4 d&&d.showable&&decide (d.shown.length<=2000)&&decide (d.depth<=8)
theorem ai1 {H:Hp}:∀{xs:List V} {ds:List PyData},P1 H xs ds->ds.all okD=true->B7 K H xs
 |_,_,.nil,_,x,hx=>by cases hx
 |_,_,.cons (d:=d) (ds:=ds) h hs,o,x,hx=>by
  rw[ev5,eg7] at o
  rcases ee8.mp hx with z|z
  · rw[z];have o1:=o.1;unfold okD at o1;rw[eg7,eg7,eg7] at o1;obtain ⟨⟨⟨a,b⟩,c⟩,e⟩:=o1;have c:=of_decide_eq_true c;exact ⟨dd8 h a,d,.inl h,b,by rw[sizeLine_eq];omega,of_decide_eq_true e⟩
  · exact ai1 hs o.2 x z
theorem B7.cons {H:Hp}{v:V}{vs:List V}(h:E3 K H v/\∃d,ShD H v d)(g:B7 K H vs):B7 K H (v::vs):=fun u hu=>(ee8.mp hu).elim (fun e=>e▸h) (g u)
end
end My
namespace My
open PySem L2 Mth
section
variable {P:Program} {w:World} {K:PySem.W.Frag} {mg:Str->Option Value} {base:Heap} {zxx zzx zyy zy zzz zyz zzy zyx zx zxz zxy:Addr}
def o3:Nat->Nat
 |0=>1
 |n+1=>(n+1)*o3 n
theorem ab9:∀n,0 < o3 n
 |0=>by decide
 |n+1=>ek8 (Nat.succ_pos n) (ab9 n)
def C6:Nat->Nat->Nat
 |_,0=>1
 |0,_+1=>0
 |n+1,k+1=>C6 n k+C6 n (k+1)
theorem am7:∀{n k:Nat},n < k->C6 n k=0
 |0,k+1,_=>rfl
 |n+1,k+1,h=>by
  show C6 n k+C6 n (k+1)=0;rw[am7 (show n < k by omega),am7 (show n < k+1 by omega)]
theorem ak4:∀{n k:Nat},k<=n->C6 n k*(o3 k*o3 (n - k))=o3 n
 |n,0,_=>by
  cases n<;>simp [C6,o3]
 |n+1,k+1,h=>by
  have a:=ak4 (n:=n) (k:=k) (by omega);show (C6 n k+C6 n (k+1))*(o3 (k+1)*o3 (n+1 - (k+1)))=o3 (n+1);rw[show n+1 - (k+1)=n - k by omega,ep2]
  have e1:C6 n k*(o3 (k+1)*o3 (n - k))=(k+1)*o3 n:=by
    rw[<-a];show C6 n k*(((k+1)*o3 k)*o3 (n - k))=_
    ac_rfl
  rw[e1]
  by_cases z:k=n
  · subst z;rw[am7 (show k < k+1 by omega),ei3,el0];rfl
  · have b:=ak4 (n:=n) (k:=k+1) (by omega)
    have e2:C6 n (k+1)*(o3 (k+1)*o3 (n - k))=(n - k)*o3 n:=by
      rw[<-b,show n - k=(n - (k+1))+1 by omega];show C6 n (k+1)*(o3 (k+1)*((n - (k+1)+1)*o3 (n - (k+1))))=_
      ac_rfl
    rw[e2,<-ep2,show k+1+(n - k)=n+1 by omega];rfl
def C7 (d:Nat):Nat->Nat->Nat
 |_,0=>1
 |0,_+1=>0
 |n+1,k+1=>C6 n (d - 1)*C7 d (n+1 - d) k+C7 d n (k+1)
termination_by n k=>n+k
decreasing_by all_goals omega
theorem ah0 (d n:Nat):C7 d n 0=1:=by cases n<;>simp [C7]
theorem bs9 (d k:Nat):C7 d 0 (k+1)=0:=by simp [C7]
theorem aw5 (d n k:Nat):C7 d (n+1) (k+1)=C6 n (d - 1)*C7 d (n+1 - d) k+C7 d n (k+1):=by rw[C7]
theorem V5 {d:Nat}(hd:1<=d):∀(n k:Nat),n < k*d->C7 d n k=0
 |n,0,h=>by omega
 |0,k+1,h=>bs9 d k
 |n+1,k+1,h=>by
  rw[aw5];have e:(k+1)*d=k*d+d:=em0 k d;rw[V5 hd n (k+1) (by omega),el0]
  by_cases z:n < d - 1
  · rw[am7 z,ei3]
  · rw[V5 hd (n+1 - d) k (by omega),em3]
termination_by n k=>n+k
theorem ai2 {d:Nat}(hd:1<=d):∀(n k:Nat),k*d<=n->C7 d n k*(o3 (n - k*d)*o3 d^k*o3 k)=o3 n
 |n,0,h=>by rw[ah0];simp [o3]
 |0,k+1,h=>by
  have e:(k+1)*d=k*d+d:=em0 k d;omega
 |n+1,k+1,h=>by
  have e:(k+1)*d=k*d+d:=em0 k d;rw[aw5,ep2];have a:=ai2 hd (n+1 - d) k (by omega);have c:=ak4 (n:=n) (k:=d - 1) (by omega);obtain ⟨d',rfl⟩:∃d',d=d'+1:=⟨d - 1,by omega⟩;rw[show n - (d'+1 - 1)=n+1 - (d'+1) by omega] at c
  have e1:C6 n (d'+1 - 1)*C7 (d'+1) (n+1 - (d'+1)) k*(o3 (n+1 - (k+1)*(d'+1))*o3 (d'+1)^(k+1)*o3 (k+1))=(d'+1)*(k+1)*o3 n:=by
    rw[show n+1 - (k+1)*(d'+1)=n+1 - (d'+1) - k*(d'+1) by omega,<-c,<-a,ep6];rw[show o3 (d'+1)=(d'+1)*o3 (d'+1 - 1) from rfl,show o3 (k+1)=(k+1)*o3 k from rfl]
    ac_rfl
  rw[e1]
  by_cases z:(k+1)*(d'+1)=n+1
  · rw[V5 hd n (k+1) (by omega),ei3,el0,ej4 (d'+1),z];rfl
  · have b:=ai2 hd n (k+1) (by omega)
    have e2:C7 (d'+1) n (k+1)*(o3 (n+1 - (k+1)*(d'+1))*o3 (d'+1)^(k+1)*o3 (k+1))=(n+1 - (k+1)*(d'+1))*o3 n:=by
      rw[<-b,show n+1 - (k+1)*(d'+1)=(n - (k+1)*(d'+1))+1 by omega];rw[show o3 (n - (k+1)*(d'+1)+1)=(n - (k+1)*(d'+1)+1)*o3 (n - (k+1)*(d'+1)) from rfl]
      ac_rfl
    rw[e2,<-ep2,ej4 (d'+1),show (k+1)*(d'+1)+(n+1 - (k+1)*(d'+1))=n+1 by omega];rfl
termination_by n k=>n+k
theorem cn4 {d n e k:Nat}(hd:1<=d)(he:1<=e)(h:k*d+e<=n):C6 (n - 1) (e - 1)*C7 d (n - e) k=C7 d (n - 1) k*C6 (n - k*d - 1) (e - 1):=by
 have a:=ak4 (n:=n - 1) (k:=e - 1) (by omega);have b:=ai2 hd (n - e) k (by omega);have c:=ai2 hd (n - 1) k (by omega);have f:=ak4 (n:=n - k*d - 1) (k:=e - 1) (by omega);rw[show n - 1 - (e - 1)=n - e by omega] at a;rw[show n - e - k*d=n - k*d - e by omega] at b;rw[show n - 1 - k*d=n - k*d - 1 by omega] at c;rw[show n - k*d - 1 - (e - 1)=n - k*d - e by omega] at f;have pos:0 < o3 (e - 1)*(o3 (n - k*d - e)*o3 d^k*o3 k):=ek8 (ab9 _) (ek8 (ek8 (ab9 _) (Nat.pow_pos (ab9 _))) (ab9 _));refine ev3 pos ?_
 have x:C6 (n - 1) (e - 1)*C7 d (n - e) k*(o3 (e - 1)*(o3 (n - k*d - e)*o3 d^k*o3 k))=o3 (n - 1):=by
   rw[<-a,<-b];ac_rfl
 have y:C7 d (n - 1) k*C6 (n - k*d - 1) (e - 1)*(o3 (e - 1)*(o3 (n - k*d - e)*o3 d^k*o3 k))=o3 (n - 1):=by
   rw[<-c,<-f];ac_rfl
 rw[x,y]
theorem az9 {l:Nat}:∀{n d:Nat},d+1<=n->t5 n l d=C6 (n - 1) d*(o3 d*l^d):=by
 have fall:∀(d n:Nat),d+1<=n->t5 n l d*o3 (n - 1 - d)=o3 (n - 1)*l^d:=by
   intro d
   induction d with
   |zero=>intro n h;simp [t5]
   |succ d ih=>
    intro n h;have:=ih n (by omega);show t5 n l d*(n - (d+1))*l*o3 (n - 1 - (d+1))=_;rw[ep6,<-ek9,<-this];rw[show n - 1 - d=(n - 1 - (d+1))+1 by omega];rw[show o3 (n - 1 - (d+1)+1)=(n - 1 - (d+1)+1)*o3 (n - 1 - (d+1)) from rfl,show n - (d+1)=n - 1 - (d+1)+1 by omega]
    ac_rfl
 intro n d h;refine ev3 (ab9 (n - 1 - d)) ?_;rw[fall d n h,<-ak4 (n:=n - 1) (k:=d) (by omega)]
 ac_rfl
def D0:Nat->(Nat->Nat)->Nat
 |0,_=>0
 |n+1,f=>D0 n f+f n
theorem R4 {f g:Nat->Nat}:∀{n:Nat},(∀k,k < n->f k=g k)->D0 n f=D0 n g
 |0,_=>rfl
 |n+1,h=>by
  show D0 n f+f n=D0 n g+g n;rw[R4 fun k hk=>h k (by omega),h n (by omega)]
theorem bg7 (f g:Nat->Nat):∀n,D0 n (fun k=>f k+g k)=D0 n f+D0 n g
 |0=>rfl
 |n+1=>by
  show D0 n (fun k=>f k+g k)+(f n+g n)=D0 n f+f n+(D0 n g+g n);rw[bg7 f g n];omega
theorem aw6 (c:Nat)(f:Nat->Nat):∀n,c*D0 n f=D0 n fun k=>c*f k
 |0=>rfl
 |n+1=>by
  show c*(D0 n f+f n)=D0 n (fun k=>c*f k)+c*f n;rw[ev1,aw6 c f n]
theorem aj7 (f:Nat->Nat):∀n,D0 (n+1) f=f 0+D0 n fun k=>f (k+1)
 |0=>by show 0+f 0=f 0+0;omega
 |n+1=>by
  show D0 (n+1) f+f (n+1)=f 0+(D0 n (fun k=>f (k+1))+f (n+1));rw[aj7 f n];omega
theorem cx2 {f:Nat->Nat}{n m:Nat}(h:n<=m)(z:∀k,n<=k->k < m->f k=0):D0 m f=D0 n f:=by
 induction m with
 |zero=>rw[show n=0 by omega]
 |succ m ih=>
  by_cases e:n=m+1
  · rw[e]
  · show D0 m f+f m=D0 n f;rw[ih (by omega) fun k h1 h2=>z k h1 (by omega),z m (by omega) (by omega)];rfl
theorem ao2 {f:Nat->Nat}:∀{n:Nat},(∀k,k < n->f k=0)->D0 n f=0
 |0,_=>rfl
 |n+1,h=>by
  show D0 n f+f n=0;rw[ao2 fun k hk=>h k (by omega),h n (by omega)]
def N3 (rs:List Nat)(f:Nat->Nat):Nat:=(rs.map f).sum
theorem N4 (r:Nat)(rs:List Nat)(f:Nat->Nat):N3 (r::rs) f=f r+N3 rs f:=by unfold N3;rw[eh0,ew1]
theorem cx3 (r:Nat)(rs:List Nat)(f:Nat->Nat):N3 (rs++[r]) f=N3 rs f+f r:=by unfold N3;rw[ed8,eq6];simp
theorem Y8 {f g:Nat->Nat}:∀{rs:List Nat},(∀r∈rs,f r=g r)->N3 rs f=N3 rs g
 |[],_=>rfl
 |r::rs,h=>by rw[N4,N4,h r ed7,Y8 fun x hx=>h x (ee0 _ hx)]
theorem bg8 (c:Nat)(f:Nat->Nat):∀rs,c*N3 rs f=N3 rs fun r=>c*f r
 |[]=>rfl
 |r::rs=>by rw[N4,N4,ev1,bg8 c f rs]
theorem cc5 (n:Nat)(f:Nat->Nat->Nat):∀rs:List Nat,N3 rs (fun r=>D0 n (f r))=D0 n fun k=>N3 rs fun r=>f r k
 |[]=>by
  have:∀n,D0 n (fun k=>N3 [] fun r=>f r k)=0:=fun n=>by
    induction n with
    |zero=>rfl
    |succ n ih=>show D0 n _+0=0;rw[ih]
  rw[this];rfl
 |r::rs=>by
  rw[N4,cc5 n f rs,<-bg7]
  exact R4 fun k _=>by rw[N4]
def Jn (l:Nat)(rs:List Nat)(j:Nat->Nat):Prop:=j 0=1/\∀n,1<=n->j n=N3 rs fun d=>if d<=n then t5 n l (d - 1)*j (n - d) else 0
def M3 (l d:Nat):Nat:=o3 (d - 1)*l^(d - 1)
theorem Jn.more {l d:Nat}{rs:List Nat}{j i:Nat->Nat}(hd:1<=d)(h1:∀r∈rs,1<=r)(hj:Jn l rs j)(hi:Jn l (rs++[d]) i):∀n N:Nat,n < N->i n=D0 N fun k=>C7 d n k*M3 l d^k*j (n - k*d):=by
 intro n
 induction n using Nat.strongRecOn with
 |ind n ih=>
 intro N hN;obtain ⟨N,rfl⟩:∃m,N=m+1:=⟨N - 1,by omega⟩
 rcases ep8 n with rfl|n1
 · rw[hi.1,aj7,ah0,et9,ei3,Nat.sub_zero,hj.1];rw[ao2 fun k _=>by rw[bs9,ei3,ei3]]
 rw[hi.2 n n1,cx3]
 have A:(N3 rs fun e=>if e<=n then t5 n l (e - 1)*i (n - e) else 0)=D0 (N+1) fun k=>C7 d (n - 1) k*M3 l d^k*(if k*d < n then j (n - k*d) else 0):=by
   have a1:(N3 rs fun e=>if e<=n then t5 n l (e - 1)*i (n - e) else 0)=N3 rs fun e=>D0 (N+1) fun k=>M3 l d^k*(if e<=n then t5 n l (e - 1)*C7 d (n - e) k*j (n - e - k*d) else 0):=by
     refine Y8 fun e he=> ?_
     have e1:=h1 e he
     by_cases c:e<=n
     · rw[if_pos c,ih (n - e) (by omega) (N+1) (by omega),aw6]
       refine R4 fun k _=> ?_
       rw[if_pos c];ac_rfl
     · rw[if_neg c,ao2 fun k _=>by rw[if_neg c,em3]]
   rw[a1,cc5]
   refine R4 fun k _=> ?_
   rw[<-bg8]
   by_cases c:k*d < n
   · rw[if_pos c,hj.2 (n - k*d) (by omega)]
     have:(N3 rs fun e=>if e<=n then t5 n l (e - 1)*C7 d (n - e) k*j (n - e - k*d) else 0)=C7 d (n - 1) k*N3 rs fun e=>if e<=n - k*d then t5 (n - k*d) l (e - 1)*j (n - k*d - e) else 0:=by
       rw[bg8]
       refine Y8 fun e he=> ?_
       have e1:=h1 e he
       by_cases c2:e<=n - k*d
       · rw[if_pos c2,if_pos (by omega),az9 (show e - 1+1<=n by omega),az9 (show e - 1+1<=n - k*d by omega),show n - e - k*d=n - k*d - e by omega];have s:=cn4 (d:=d) (n:=n) (e:=e) (k:=k) hd e1 (by omega)
         have:C6 (n - 1) (e - 1)*(o3 (e - 1)*l^(e - 1))*C7 d (n - e) k=C7 d (n - 1) k*(C6 (n - k*d - 1) (e - 1)*(o3 (e - 1)*l^(e - 1))):=by
           calc _=(C6 (n - 1) (e - 1)*C7 d (n - e) k)*(o3 (e - 1)*l^(e - 1)):=by ac_rfl
             _=_:=by rw[s];ac_rfl
         rw[this];ac_rfl
       · rw[if_neg c2,em3]
         by_cases c3:e<=n
         · rw[if_pos c3,V5 hd (n - e) k (by omega),em3,ei3]
         · rw[if_neg c3]
     rw[this];ac_rfl
   · rw[if_neg c,em3]
     have:(N3 rs fun e=>if e<=n then t5 n l (e - 1)*C7 d (n - e) k*j (n - e - k*d) else 0)=N3 rs fun _=>0:=Y8 fun e he=>by
       have e1:=h1 e he
       by_cases c3:e<=n
       · rw[if_pos c3,V5 hd (n - e) k (by omega),em3,ei3]
       · rw[if_neg c3]
     have z:∀rs:List Nat,(N3 rs fun _=>0)=0:=fun rs=>by
       induction rs with
       |nil=>rfl
       |cons r rs ih=>rw[N4,ih]
     rw[this,z,em3]
 have B:(if d<=n then t5 n l (d - 1)*i (n - d) else 0)=D0 N fun k=>C6 (n - 1) (d - 1)*C7 d (n - d) k*M3 l d^(k+1)*j (n - (k+1)*d):=by
   by_cases c:d<=n
   · rw[if_pos c,az9 (show d - 1+1<=n by omega),ih (n - d) (by omega) N (by omega),aw6]
     refine R4 fun k _=> ?_
     rw[ep6,show n - d - k*d=n - (k+1)*d by rw[em0];omega];unfold M3
     ac_rfl
   · rw[if_neg c];rw[ao2 fun k _=>by rw[am7 (show n - 1 < d - 1 by omega),ei3,ei3,ei3]]
 rw[A,B,aj7,aj7 (fun k=>C7 d n k*M3 l d^k*j (n - k*d)),er6,<-bg7]
 congr 1
 · rw[ah0,ah0,ei3,if_pos n1]
 · refine R4 fun k _=> ?_
   obtain ⟨m,rfl⟩:∃m,n=m+1:=⟨n - 1,by omega⟩;rw[aw5,eu8]
   by_cases c:(k+1)*d < m+1
   · rw[if_pos c,<-ep2,<-ep2,em1]
   · rw[if_neg c,em3,eo0,V5 hd m (k+1) (by omega),el0 (C6 m (d - 1)*_)]
theorem Jn.none {l:Nat}{j:Nat->Nat}(h:Jn l [] j){n:Nat}(n1:1<=n):j n=0:=h.2 n n1
def jf (l:Nat)(rs:List Nat)(n:Nat):Nat:=(E8 l rs n).getD n 0
theorem bt0 (l:Nat)(rs:List Nat):∀(k i:Nat),i<=k->(E8 l rs k).getD i 0=jf l rs i
 |0,i,h=>by rw[show i=0 by omega];rfl
 |k+1,i,h=>by
  by_cases e:i=k+1
  · rw[e];rfl
  · show (E8 l rs k++[_]).getD i 0=_;rw[ee4,ef8 (by rw[R1];omega),<-ee4];exact bt0 l rs k i (by omega)
theorem be1 (n:Nat)(f:Nat->Nat):∀rs:List Nat,((rs.filter fun d=>decide (d<=n)).map f).sum=N3 rs fun d=>if d<=n then f d else 0
 |[]=>rfl
 |r::rs=>by
  rw[N4,<-be1 n f rs]
  by_cases c:r<=n
  · rw[eo2 (by simpa using c),eh0,ew1,if_pos c]
  · rw[eo3 (by simpa using c),if_neg c,eo0]
theorem aw7 {l:Nat}{rs:List Nat}(h1:∀d∈rs,1<=d):Jn l rs (jf l rs):=by
 refine ⟨rfl,fun n n1=> ?_⟩;obtain ⟨k,rfl⟩:∃k,n=k+1:=⟨n - 1,by omega⟩;show (E8 l rs k++[_]).getD (k+1) 0=_;rw[ee4,ef6 (by rw[R1];omega),R1,en3];show aw1 l rs (E8 l rs k) (k+1)=_;unfold aw1;rw[be1]
 refine Y8 fun d hd=> ?_
 have:=h1 d hd
 by_cases c:d<=k+1
 · rw[if_pos c,if_pos c,bt0 l rs k _ (by omega)]
 · rw[if_neg c,if_neg c]
theorem dm1 {l:Nat}{rs:List Nat}(h1:∀d∈rs,1<=d){a d left:Nat}(ha:rs[a]? =some d):jf l (rs.take (a+1)) left=D0 (left/d+1) fun k=>C7 d left k*M3 l d^k*jf l (rs.take a) (left - k*d):=by
 have hd:=h1 d (ee1 ha)
 have t1:∀r∈rs.take a,1<=r:=fun r hr=>h1 r (ei4 hr)
 rw[m7 ha]
 have e:=Jn.more hd t1 (aw7 (l:=l) t1) (aw7 (l:=l) (rs:=rs.take a++[d]) fun r hr=>by
   rcases ee2.mp hr with z|z
   · exact t1 r z
   · rw[ee3.mp z];exact hd) left (left+1) (by omega)
 rw[e]
 refine cx2 (et0 (Nat.div_le_self _ _)) fun k k1 k2=> ?_
 rw[V5 hd left k (by
   have:left/d < k:=by omega
   exact (Nat.div_lt_iff_lt_mul (by omega)).mp this),ei3,ei3]
theorem dt1 {l n:Nat}(n1:1<=n):jf l [] n=0:=(aw7 (l:=l) (rs:=[]) (fun d hd=>by cases hd)).none n1
theorem dm2 (l:Nat)(rs:List Nat):jf l rs 0=1:=rfl
structure Nd where
 left:Nat
 a:Nat
 t:Nat
 b:Nat
 q:Nat
structure cc6 (n:Nat)(rs:List Nat)(x:Nd):Prop where
 le:x.left<=n
 al:x.a<=rs.length
 eq:o3 n*x.t=x.q*x.b*o3 x.left
 b1:1<=x.b
 tb:x.t<=1600^(n - x.left)
 bb:x.b<=1600^(n - x.left)
def ndV (x:Nd):List V:=[.int (x.left:Int),.int ((x.a:Int) - 1),.int (x.t:Int),.int (x.b:Int)]
def aa0 (l:Nat)(rs:List Nat)(x:Nd):Nat:=x.q*jf l (rs.take x.a) x.left
def cst (rs:List Nat):Nat->Nat->Nat
 |0,_=>1
 |a+1,left=>1+D0 (left/rs.getD a 1+1) fun k=>cst rs a (left - k*rs.getD a 1)
theorem dm3 (rs:List Nat)(a left:Nat):1<=cst rs a left:=by
 cases a with
 |zero=>exact ed5 _
 |succ a=>show 1<=1+_;omega
def W8 (l d:Nat)(x:Nd)(k:Nat):Nd:=⟨x.left - k*d,x.a - 1,x.t*M3 l d^k,x.b*o3 d^k*o3 k,x.q*C7 d x.left k*M3 l d^k⟩
theorem ar1:∀{n:Nat},n<=40->o3 n<=40^n
 |0,_=>ed5 _
 |n+1,h=>by
  show (n+1)*o3 n<=40^n*40;rw[ej4];exact el6 (ar1 (by omega)) h
theorem cx4 {l d:Nat}(hl:l<=40)(hd:d<=40):M3 l d<=1600^(d - 1):=by
 unfold M3;rw[show 1600=40*40 from rfl,Nat.mul_pow];exact el6 (ar1 (by omega)) (eo5 hl _)
theorem cc7 {l n d:Nat}{rs:List Nat}{x:Nd}(h:cc6 n rs x)(hl:l<=40)(hn:n<=40)(d1:1<=d)(d2:d<=40){k:Nat}(hk:k*d<=x.left):cc6 n rs (W8 l d x k):=by
 have hle:=h.le;have hal:=h.al;refine ⟨by show x.left - k*d<=n;omega,by show x.a - 1<=rs.length;omega,?_,?_,?_,?_⟩
 · show o3 n*(x.t*M3 l d^k)=x.q*C7 d x.left k*M3 l d^k*(x.b*o3 d^k*o3 k)*o3 (x.left - k*d);rw[<-ek9,h.eq,<-ai2 d1 x.left k hk]
   ac_rfl
 · show 1<=x.b*o3 d^k*o3 k;exact ek8 (ek8 h.b1 (Nat.pow_pos (ab9 _))) (ab9 _)
 · show x.t*M3 l d^k<=1600^(n - (x.left - k*d));rw[show n - (x.left - k*d)=(n - x.left)+k*d by omega,ey2];refine el6 h.tb (ee6 (eo5 (cx4 hl d2) k) ?_);rw[<-ev2,ej4];exact ek4 (by decide) (eu1 _ (by omega))
 · show x.b*o3 d^k*o3 k<=1600^(n - (x.left - k*d));rw[show n - (x.left - k*d)=(n - x.left)+k*d by omega,ey2,ek9];refine el6 h.bb ?_;have kd:k<=k*d:=ej0 _ d1;rw[show 1600=40*40 from rfl,Nat.mul_pow];refine el6 ?_ (ee6 (ar1 (by omega)) (ek4 (by decide) kd));rw[ej4 k d,ev2];exact eo5 (ar1 d2) k
theorem bg9 (f:Nat->Nat):∀n,((ei1 n).map f).sum=D0 n f
 |0=>rfl
 |n+1=>by rw[eq4,ed8,eq6,bg9 f n];simp [D0]
theorem dt2 (q:Nat)(f:Nat->Nat)(n:Nat):D0 n (fun k=>q*f k)=q*D0 n f:=(aw6 q f n).symm
theorem dm4 {l:Nat}{rs:List Nat}(h1:∀d∈rs,1<=d){x:Nd}{a d:Nat}(ha:x.a=a+1)(hd:rs[a]? =some d):((ei1 (x.left/d+1)).map fun k=>aa0 l rs (W8 l d x k)).sum=aa0 l rs x:=by
 rw[bg9];unfold aa0;rw[ha,dm1 h1 hd,<-dt2]
 refine R4 fun k _=> ?_
 show x.q*C7 d x.left k*M3 l d^k*jf l (rs.take (x.a - 1)) (x.left - k*d)=_;rw[ha,eu8]
 ac_rfl
theorem dm5 {l:Nat}{rs:List Nat}{x:Nd}{a d:Nat}(ha:x.a=a+1)(hd:rs[a]? =some d):((ei1 (x.left/d+1)).map fun k=>cst rs (W8 l d x k).a (W8 l d x k).left).sum+1=cst rs x.a x.left:=by
 rw[bg9,ha]
 show _=1+D0 (x.left/rs.getD a 1+1) fun k=>cst rs a (x.left - k*rs.getD a 1)
 rw[ee4,hd]
 show _=1+D0 (x.left/d+1) fun k=>cst rs a (x.left - k*d)
 rw[em1]
 congr 1
 refine R4 fun k _=> ?_
 show cst rs (x.a - 1) (x.left - k*d)=_;rw[ha,eu8]
structure P3 (H:Hp)(pl:Addr)(n:Nat)(rs:List Nat)(ts:List Addr)(nds:List Nd):Prop where
 at_:H pl=some (.lst (ts.map V.ref))
 len:ts.length=nds.length
 tup:∀(i:Nat) t x,ts[i]? =some t->nds[i]? =some x->H t=some (.tup (ndV x))
 ok:∀x∈nds,cc6 n rs x
 lev:∀(i:Nat) x,nds[i]? =some x->x.a+i/42<=rs.length
 ne:∀t∈ts,t≠pl
theorem P3.few {H:Hp}{pl:Addr}{n:Nat}{rs:List Nat}{ts:List Addr}{nds:List Nd}(h:P3 H pl n rs ts nds)(hr:rs.length<=40):nds.length<=1722:=by
 rcases ex1 nds.length 1723 with z|z
 · omega
 · have:=h.lev 1722 _ (ed4 (by omega));omega
theorem P3.keep {H H':Hp}{pl:Addr}{n:Nat}{rs:List Nat}{ts:List Addr}{nds:List Nd}(h:P3 H pl n rs ts nds)(s:c6 H H'):P3 H' pl n rs ts nds:=
 ⟨s _ _ h.at_,h.len,fun i t x a b=>s _ _ (h.tup i t x a b),h.ok,h.lev,h.ne⟩
theorem P3.push {H:Hp}{pl t:Addr}{n:Nat}{rs:List Nat}{ts:List Addr}{nds:List Nd}{x:Nd}(h:P3 H pl n rs ts nds)(ht:H t=some (.tup (ndV x)))(ox:cc6 n rs x)(lx:x.a+nds.length/42<=rs.length)(nt:t≠pl):P3 (c9 H pl (.lst (ts.map V.ref++[.ref t]))) pl n rs (ts++[t]) (nds++[x]):=by
 have cases_:∀{i:Nat} {y:Nd},(nds++[x])[i]? =some y->nds[i]? =some y\/(i=nds.length/\y=x):=fun {i y} e=>by
   rcases ex1 i nds.length with z|z
   · rw[ef8 z] at e;exact .inl e
   · rw[ef6 z] at e;have i2:i - nds.length < 1:=(ed3.mp e).1
     have:i=nds.length:=by omega
     subst this;rw[en3] at e;cases e;exact .inr ⟨rfl,rfl⟩
 refine ⟨by rw[c7,ed8];rfl,by rw[ed6,ed6,h.len];rfl,fun i u y eu ey=> ?_,fun y hy=> ?_,fun i y ey=> ?_,fun u hu=> ?_⟩
 · rcases cases_ ey with e|⟨rfl,rfl⟩
   · have il:i < ts.length:=by rw[h.len];exact (ed3.mp e).1
     rw[ef8 il] at eu;rw[g8 (h.ne u (ee1 eu))];exact h.tup i u y eu e
   · rw[ef6 (by rw[h.len];exact ed5 _),h.len,en3] at eu;cases eu;rw[g8 nt];exact ht
 · rcases ee2.mp hy with z|z
   · exact h.ok y z
   · rw[ee3.mp z];exact ox
 · rcases cases_ ey with e|⟨rfl,rfl⟩
   · exact h.lev i y e
   · exact lx
 · rcases ee2.mp hu with z|z
   · exact h.ne u z
   · rw[ee3.mp z];exact nt
theorem P3.pop {H:Hp}{pl:Addr}{n:Nat}{rs:List Nat}{ts:List Addr}{nds:List Nd}{x:Nd}(h:P3 H pl n rs ts (nds++[x])):∃ts' t,ts=ts'++[t]/\H t=some (.tup (ndV x))/\P3 (c9 H pl (.lst (ts'.map V.ref))) pl n rs ts' nds/\cc6 n rs x/\x.a+nds.length/42<=rs.length:=by
 have l0:ts.length=nds.length+1:=by rw[h.len,ed6];rfl
 obtain ⟨ts',t,rfl⟩:∃ts' t,ts=ts'++[t]:=by
   have ne:ts≠[]:=fun z=>by rw[z] at l0;simp at l0
   exact ⟨ts.dropLast,ts.getLast ne,(eu4 ne).symm⟩
 have l1:ts'.length=nds.length:=by rw[ed6] at l0;simp at l0;exact l0
 have ex:(nds++[x])[nds.length]? =some x:=by rw[ef6 (ed5 _),en3];rfl
 have et:(ts'++[t])[nds.length]? =some t:=by rw[ef6 (by omega),l1,en3];rfl
 refine ⟨ts',t,rfl,h.tup _ t x et ex,⟨c7,l1,fun i u y eu ey=> ?_,fun y hy=>h.ok y (eh8 _ hy),fun i y ey=>h.lev i y ?_,fun u hu=>h.ne u (eh8 _ hu)⟩,h.ok x (ef1 _ (ee3.mpr rfl)),h.lev _ x ex⟩
 · rw[g8 (h.ne u (eh8 _ (ee1 eu)))];refine h.tup i u y ?_ ?_
   · rw[ef8 (ed3.mp eu).1];exact eu
   · rw[ef8 (ed3.mp ey).1];exact ey
 · rw[ef8 (ed3.mp ey).1];exact ey
end
end My
namespace My
open PySem L2 Mth
section
variable {P:Program} {w:World} {K:PySem.W.Frag} {mg:Str->Option Value} {base:Heap} {zxx zzx zyy zy zzz zyz zzy zyx zx zxz zxy:Addr}
def ba0:Sp:=fun vs H Q _=>∃(l m j:Nat),vs=[.int (l:Int),.int (m:Int),.int (j:Int)]/\l<=40/\j<=40/\∀(a:Addr) (H':Hp),H a=none->c6 H H'->H' a=some (.lst ((K0 (B9 l m j)).map V.int))->Q (.ref a) H'
theorem Q4:n5 ["l","m","most","found","d","one","other"] ["l","m","most"] (i8 am0):=by rfl'
theorem bv3 {f:Addr}{fd:FuncData}(F:B6 K "_law_rights" "_law_rights" am0 f fd)(B:Bl mg):m9 P w K mg base E2 1 f fd ["l","m","most"] ba0:=by
 refine F.ok Q4 (fun vs H Q E h=> ?_) (fun cdv A outer s H vs Q E hr h=> ?_)
 · obtain ⟨l,m,j,rfl,hl,hj,q⟩:=h;rfl
 · obtain ⟨l,m,j,rfl,hl,hj,q⟩:=h;refine ⟨_,@c8 _ _ _ _ _ (@i4 _ _ (3) _ _ _ _ Q4.nd rfl (Or.inl rfl) (@o5 _ _ _ _ (@j8 _)) (by rfl) (by trivial)) (@c8 _ _ _ _ _ (@q0 _ _ _ _ _ _ _ _ PassesOwn.never rfl (@U5 _ _ _ _ _ _ _ (by rfl) B.range (@e7 _ _ _ _ _ (@h8 _ _ _ _) (@e8 _ _ _ (@i6 _ _ _ _ _ _ _ _ C0 (pv 2) (@h8 _ _ _ _)) (by rfl)) (by rfl)) (by rfl) (by rfl)) (@i9 _ _ (4) _ Q4.nd rfl (Or.inl rfl) (by trivial)) (@c8 _ _ _ _ _ (@i4 _ _ (5) _ _ _ _ Q4.nd rfl (Or.inl rfl) (@i6 _ _ _ _ _ _ _ _ V9 (pv 4) (pv 0)) (by rfl) (by trivial)) (@c8 _ _ _ _ _ (@i4 _ _ (6) _ _ _ _ Q4.nd rfl (Or.inl rfl) (pv 1) (by rfl) (by trivial)) (@c8 _ _ _ _ _ (@ae2 _ _ _ _ _ _ PassesOwn.never (@j6 _ _ _ _ _ _ _ _ an5 (pv 6) (@h8 _ _ _ _) (j7 _)) (@g6 _ _ _ (@do2 _ _ (5) (6) _ _ _ _ _ _ _ _ _ _ _ rfl Q4.nd rfl rfl (by decide) rfl rfl (@e7 _ _ _ _ _ (pv 6) (@e8 _ _ _ (@i6 _ _ _ _ _ _ _ _ C1 (pv 5) (pv 6)) (by rfl)) (by rfl)) (by rfl) (by rfl)))) (@g6 _ _ _ (@y8 _ _ _ _ _ _ _ _ (@j6 _ _ _ _ _ _ _ _ ac3 (pv 5) (pv 4) (j7 _)) (@g6 _ _ _ (@w9 _ _ _ _ (@B0 _ _ _ _ _ _ _ (pv 3) (@e8 _ _ _ (pv 4) (by rfl)) (by rfl) (by rfl) (by rfl) (by rfl) (by rfl)) (by rfl))) (@o7 _)))))) (by intro _;rfl)) (@g6 _ _ _ (@j9 _ _ _ _ (pv 3)))),?_⟩
   try dsimp only[t6,Cx.nox,Cx.wish]
   refine ⟨ef5 _,fun fa nfa=> ?_⟩;refine ⟨_,rfl,_,_,rfl,rfl,1,(j:Int)+1,rfl,⟨by decide,by decide,by omega,by omega⟩,?_⟩;rw[show ((j:Int)+1 - 1).toNat=j by omega]
   refine G7 (lo:=1) (n:=j) (fun i σ H2=>∃v4 v5 v6:Option V,σ=[some (.int (l:Int)),some (.int (m:Int)),some (.int (j:Int)),some (.ref fa),v4,v5,v6]/\H2 fa=some (.lst ((K0 (B9 l m i)).map V.int))/\c6 H H2)
     ⟨none,none,none,rfl,c7,c6.upd_new nfa⟩ ?_ ?_
   · rintro i σ H2 hi ⟨v4,v5,v6,rfl,h2,s2⟩
     have e1:(1:Int)+(i:Int)=((i+1:Nat):Int):=by omega
     refine ⟨_,rfl,_,rfl,_,_,rfl,rfl,.inr ⟨by omega,by omega⟩,_,rfl,?_⟩;refine ⟨fun mm σ H3=>∃x y:Nat,σ=[some (.int (l:Int)),some (.int (m:Int)),some (.int (j:Int)),some (.ref fa),some (.int ((i+1:Nat):Int)),some (.int (x:Int)),some (.int (y:Int))]/\eh9 x y=eh9 ((i+1)*l) m/\H3=H2/\y=mm,⟨m,(i+1)*l,m,?_,rfl,rfl,rfl⟩,?_⟩
     · rw[e1,eh3];rfl
     rintro mm σ H3 ⟨x,y,rfl,eg,rfl,rfl⟩;refine ⟨_,rfl,_,_,rfl,rfl,_,rfl,?_⟩
     by_cases c:y=0
     · subst c;rw[decide_eq_false (by omega)];rw[Nat.gcd_zero_right] at eg;refine ⟨_,rfl,_,rfl,rfl,_,rfl,?_⟩;rw[eg];have li:=Z7 l m i
       by_cases ce:eh9 ((i+1)*l) m=i+1
       · rw[decide_eq_true (congrArg V.int (by rw[ce]))];refine J8 ⟨_,rfl,.inl ⟨rfl,_,g9.of h2⟩,_,rfl,fa,_,_,rfl,rfl,h2,m8 (by unfold K0;rw[ed2,ed2];omega),?_⟩;refine ⟨_,_,_,rfl,?_,s2.upd_r nfa⟩;rw[c7,am6,if_pos ce];unfold K0;rw[ed8,ed8];rfl
       · rw[decide_eq_false fun z=>ce (by have:=V.int.inj z;omega)];refine y7 ⟨_,_,_,rfl,?_,s2⟩;rw[am6,if_neg ce];exact h2
     · rw[decide_eq_true (by omega)];refine ⟨fun σ' H'=>∃m',m' < y/\_,fun _ _ h=>h,?_⟩;refine ⟨_,rfl,_,rfl,_,rfl,_,_,rfl,rfl,(show (0:Int) < (y:Int) by omega),_,_,rfl,?_⟩;refine ⟨x%y,en6 _ (by omega),y,x%y,?_,?_,rfl,rfl⟩
       · rw[el9];rfl
       · rw[<-eg,ex2 x y,Nat.gcd_rec y x,ex2]
   · rintro σ H2 ⟨v4,v5,v6,rfl,h2,s2⟩;exact ⟨_,rfl,q fa H2 nfa s2 h2⟩
theorem P4 {x:Nat}(h:x < 2^1000):((x:Int)).natAbs < 2^20000:=by
 rw[el1];exact eg2 h (ek4 (by decide) (by decide))
theorem cx5 {x:Nat}(h:x < 2^1000):((x:Int)).natAbs < 2^9000:=by
 rw[el1];exact eg2 h (ek4 (by decide) (by decide))
theorem dx1:∀k,k < 41->1600^k < 2^440:=by decide+kernel
theorem p40:∀k,k < 41->40^k < 2^220:=by decide+kernel
theorem dx2 {x:Nat}(h:x < 2^440):x < 2^1000:=eg2 h (ek4 (by decide) (by decide))
theorem dg6 {x:Nat}(h:x < 2^220):x < 2^1000:=eg2 h (ek4 (by decide) (by decide))
theorem ar2 {n:Nat}(h:n<=40):o3 n < 2^1000:=dg6 (eg1 (ar1 h) (p40 n (by omega)))
theorem ag0 {x k:Nat}(h:x<=1600^k)(hk:k<=40):x < 2^1000:=dx2 (eg1 h (dx1 k (by omega)))
theorem cx7 {x y:Nat}(hx:x < 2^1000)(hy:y < 2^1000):((x:Int)*(y:Int)).natAbs < 2^20000:=by
 rw[<-eh3,el1];refine eg2 (Nat.mul_lt_mul'' hx hy) ?_;rw[<-ey2];exact ek4 (by decide) (by decide)
theorem am9 {x:Nat}(h:x<=1600):x < 2^1000:=ag0 (k:=1) h (by decide)
theorem dx3 {l i:Nat}(hl:l<=40)(hi:i<=40):o3 i*l^i<=1600^i:=by
 rw[show 1600=40*40 from rfl,Nat.mul_pow];exact el6 (ar1 hi) (eo5 hl _)
theorem ea9 {l d:Nat}{x:Nd}(h:1<=x.a):ndV (W8 l d x 0)=[.int (x.left:Int),.int ((x.a:Int) - 1 - 1),.int (x.t:Int),.int (x.b:Int)]:=by
 show [V.int ((x.left - 0*d:Nat):Int),V.int (((x.a - 1:Nat):Int) - 1),V.int ((x.t*M3 l d^0:Nat):Int),V.int ((x.b*o3 d^0*o3 0:Nat):Int)]=_;rw[ei3,Nat.sub_zero,et9,et9,em5,em5,show o3 0=1 from rfl,em5,ex7 h];rfl
theorem dt3 {l d k:Nat}{x:Nd}(h:1<=x.a)(hk:(k+1)*d<=x.left):ndV (W8 l d x (k+1))=[.int ((x.left:Int) - (1+(k:Int))*(d:Int)),.int ((x.a:Int) - 1 - 1),.int (((W8 l d x k).t:Int)*(M3 l d:Int)),.int (((W8 l d x k).b:Int)*(o3 d:Int)*(1+(k:Int)))]:=by
 show [V.int ((x.left - (k+1)*d:Nat):Int),V.int (((x.a - 1:Nat):Int) - 1),V.int ((x.t*M3 l d^(k+1):Nat):Int),V.int ((x.b*o3 d^(k+1)*((k+1)*o3 k):Nat):Int)]=[_,_,V.int (((x.t*M3 l d^k:Nat):Int)*(M3 l d:Int)),V.int (((x.b*o3 d^k*o3 k:Nat):Int)*(o3 d:Int)*(1+(k:Int)))]
 have e1:(1+(k:Int))=((k+1:Nat):Int):=by omega
 rw[e1,ex7 hk,ex7 h,ep6,ep6,<-eh3,<-eh3,<-eh3,<-eh3];rw[show x.t*(M3 l d^k*M3 l d)=x.t*M3 l d^k*M3 l d by ac_rfl,show x.b*(o3 d^k*o3 d)*((k+1)*o3 k)=x.b*o3 d^k*o3 k*o3 d*(k+1) by ac_rfl];rfl
def bp5:Sp:=fun vs H Q _=>∃(l n:Nat) (ra:Addr) (rs:List Nat),vs=[.int (l:Int),.int (n:Int),.ref ra]/\H ra=some (.lst ((K0 rs).map V.int))/\l<=40/\n<=40/\rs.length<=40/\(∀d∈rs,1<=d/\d<=40)/\∀H',c6 H H'->Q (.int ((jf l rs n:Nat):Int)) H'
theorem t8:n5 ["l","many","rights","top","k","total","pile","left","at","times","below","d","one","over","taken"] ["l","many","rights"] (i8 ap2):=by rfl'
theorem cc8 {f:Addr}{fd:FuncData}(F:B6 K "_law_woven" "_law_woven" ap2 f fd)(B:Bl mg):m9 P w K mg base E2 1 f fd ["l","many","rights"] bp5:=by
 refine F.ok t8 (fun vs H Q E h=> ?_) (fun cdv A outer s H vs Q E hr h=> ?_)
 · obtain ⟨l,n,ra,rs,rfl,hra,hl,hn,lr,dr,q⟩:=h;rfl
 · obtain ⟨l,n,ra,rs,rfl,hra,hl,hn,lr,dr,q⟩:=h;have hu:=Q8 hr;refine ⟨_,@c8 _ _ _ _ _ (@i4 _ _ (3) _ _ _ _ t8.nd rfl (Or.inl rfl) (@h8 _ _ _ _) (by rfl) (by trivial)) (@c8 _ _ _ _ _ (@q0 _ _ _ _ _ _ _ _ PassesOwn.never rfl (@U5 _ _ _ _ _ _ _ (by rfl) B.range (@e7 _ _ _ _ _ (@h8 _ _ _ _) (@e8 _ _ _ (@i6 _ _ _ _ _ _ _ _ C0 (pv 1) (@h8 _ _ _ _)) (by rfl)) (by rfl)) (by rfl) (by rfl)) (@i9 _ _ (4) _ t8.nd rfl (Or.inl rfl) (by trivial)) (@g6 _ _ _ (@i4 _ _ (3) _ _ _ _ t8.nd rfl (Or.inl rfl) (@i6 _ _ _ _ _ _ _ _ Q2 (pv 3) (pv 4)) (by rfl) (by trivial))) (by intro _;rfl)) (@c8 _ _ _ _ _ (@i4 _ _ (5) _ _ _ _ t8.nd rfl (Or.inl rfl) (@h8 _ _ _ _) (by rfl) (by trivial)) (@c8 _ _ _ _ _ (@i4 _ _ (6) _ _ _ _ t8.nd rfl (Or.inl rfl) (@o5 _ _ _ _ (@e8 _ _ _ (@ah1 _ _ _ _ _ (@e7 _ _ _ _ _ (pv 1) (@e7 _ _ _ _ _ (@i6 _ _ _ _ _ _ _ _ Z5 (@o8 _ _ _ _ _ B.len (@e8 _ _ _ (pv 2) (by rfl)) (by rfl) (by rfl)) (@h8 _ _ _ _)) (@e7 _ _ _ _ _ (@h8 _ _ _ _) (@e8 _ _ _ (@h8 _ _ _ _) (by rfl)) (by rfl)) (by rfl)) (by rfl))) (by rfl))) (by rfl) (by trivial)) (@c8 _ _ _ _ _ (@ae2 _ _ _ _ _ _ PassesOwn.never (@j6 _ _ _ _ _ _ _ _ (ac6 0 hu) (pv 6) (@o5 _ _ _ _ (@j8 _)) (j7 _)) (@c8 _ _ _ _ _ (@ak5 _ _ _ _ _ _ (@cw6 _ _ _ _ _ (pv 6) (by rfl) (by rfl)) (@X0 _ _ _ _ _ _ rfl (@A9 _ _ _ _ _ (@i9 _ _ (7) _ t8.nd rfl (Or.inl rfl) (by trivial)) (@A9 _ _ _ _ _ (@i9 _ _ (8) _ t8.nd rfl (Or.inl rfl) (by trivial)) (@A9 _ _ _ _ _ (@i9 _ _ (9) _ t8.nd rfl (Or.inl rfl) (by trivial)) (@A9 _ _ _ _ _ (@i9 _ _ (10) _ t8.nd rfl (Or.inl rfl) (by trivial)) (@S2 _) (by rfl)) (by rfl)) (by rfl)) (by rfl)) (by rfl) (by rfl)) (by rfl) (by rfl) (by rfl)) (@g6 _ _ _ (@y8 _ _ _ _ _ _ _ _ (@j6 _ _ _ _ _ _ _ _ ac3 (pv 7) (@h8 _ _ _ _) (j7 _)) (@g6 _ _ _ (@i4 _ _ (5) _ _ _ _ t8.nd rfl (Or.inl rfl) (@i6 _ _ _ _ _ _ _ _ C0 (pv 5) (@i6 _ _ _ _ _ _ _ _ ca4 (@i6 _ _ _ _ _ _ _ _ Q2 (pv 3) (pv 9)) (pv 10))) (by rfl) (by trivial))) (@g6 _ _ _ (@y8 _ _ _ _ _ _ _ _ (@j6 _ _ _ _ _ _ _ _ bh8 (pv 8) (@h8 _ _ _ _) (j7 _)) (@c8 _ _ _ _ _ (@w9 _ _ _ _ (@B0 _ _ _ _ _ _ _ (pv 6) (@e8 _ _ _ (@ah1 _ _ _ _ _ (@e7 _ _ _ _ _ (pv 7) (@e7 _ _ _ _ _ (@i6 _ _ _ _ _ _ _ _ Z5 (pv 8) (@h8 _ _ _ _)) (@e7 _ _ _ _ _ (pv 9) (@e8 _ _ _ (pv 10) (by rfl)) (by rfl)) (by rfl)) (by rfl))) (by rfl)) (by rfl) (by rfl) (by rfl) (by rfl) (by rfl)) (by rfl)) (@c8 _ _ _ _ _ (@i4 _ _ (11) _ _ _ _ t8.nd rfl (Or.inl rfl) (@N7 _ _ _ _ _ _ _ G1 (pv 2) (pv 8) (fun _ _=>rfl)) (by rfl) (by trivial)) (@c8 _ _ _ _ _ (@i4 _ _ (12) _ _ _ _ t8.nd rfl (Or.inl rfl) (@h8 _ _ _ _) (by rfl) (by trivial)) (@c8 _ _ _ _ _ (@i4 _ _ (13) _ _ _ _ t8.nd rfl (Or.inl rfl) (@h8 _ _ _ _) (by rfl) (by trivial)) (@c8 _ _ _ _ _ (@q0 _ _ _ _ _ _ _ _ PassesOwn.never rfl (@U5 _ _ _ _ _ _ _ (by rfl) B.range (@e7 _ _ _ _ _ (@h8 _ _ _ _) (@e8 _ _ _ (pv 11) (by rfl)) (by rfl)) (by rfl) (by rfl)) (@i9 _ _ (4) _ t8.nd rfl (Or.inl rfl) (by trivial)) (@c8 _ _ _ _ _ (@i4 _ _ (12) _ _ _ _ t8.nd rfl (Or.inl rfl) (@i6 _ _ _ _ _ _ _ _ Q2 (@i6 _ _ _ _ _ _ _ _ Q2 (pv 12) (pv 4)) (pv 0)) (by rfl) (by trivial)) (@g6 _ _ _ (@i4 _ _ (13) _ _ _ _ t8.nd rfl (Or.inl rfl) (@i6 _ _ _ _ _ _ _ _ Q2 (pv 13) (@i6 _ _ _ _ _ _ _ _ C0 (pv 4) (@h8 _ _ _ _))) (by rfl) (by trivial)))) (by intro _;rfl)) (@g6 _ _ _ (@q0 _ _ _ _ _ _ _ _ PassesOwn.never rfl (@U5 _ _ _ _ _ _ _ (by rfl) B.range (@e7 _ _ _ _ _ (@h8 _ _ _ _) (@e8 _ _ _ (@i6 _ _ _ _ _ _ _ _ C0 (@i6 _ _ _ _ _ _ _ _ ca4 (pv 7) (pv 11)) (@h8 _ _ _ _)) (by rfl)) (by rfl)) (by rfl) (by rfl)) (@i9 _ _ (14) _ t8.nd rfl (Or.inl rfl) (by trivial)) (@c8 _ _ _ _ _ (@i4 _ _ (9) _ _ _ _ t8.nd rfl (Or.inl rfl) (@i6 _ _ _ _ _ _ _ _ Q2 (pv 9) (pv 12)) (by rfl) (by trivial)) (@c8 _ _ _ _ _ (@i4 _ _ (10) _ _ _ _ t8.nd rfl (Or.inl rfl) (@i6 _ _ _ _ _ _ _ _ Q2 (@i6 _ _ _ _ _ _ _ _ Q2 (pv 10) (pv 13)) (pv 14)) (by rfl) (by trivial)) (@g6 _ _ _ (@w9 _ _ _ _ (@B0 _ _ _ _ _ _ _ (pv 6) (@e8 _ _ _ (@ah1 _ _ _ _ _ (@e7 _ _ _ _ _ (@i6 _ _ _ _ _ _ _ _ Z5 (pv 7) (@i6 _ _ _ _ _ _ _ _ Q2 (pv 14) (pv 11))) (@e7 _ _ _ _ _ (@i6 _ _ _ _ _ _ _ _ Z5 (pv 8) (@h8 _ _ _ _)) (@e7 _ _ _ _ _ (pv 9) (@e8 _ _ _ (pv 10) (by rfl)) (by rfl)) (by rfl)) (by rfl))) (by rfl)) (by rfl) (by rfl) (by rfl) (by rfl) (by rfl)) (by rfl))))) (by intro _;rfl)))))))) (@o7 _))))))) (@g6 _ _ _ (@j9 _ _ _ _ (pv 5))))))),?_⟩
   refine dg3 ?_;intros
   try dsimp only[t6,Cx.nox,Cx.wish]
   refine ⟨_,rfl,_,_,rfl,rfl,1,(n:Int)+1,rfl,⟨by decide,by decide,by omega,by omega⟩,?_⟩;rw[show ((n:Int)+1 - 1).toNat=n by omega]
   refine G7 (lo:=1) (n:=n) (fun i σ H2=>∃v4:Option V,σ=[some (.int (l:Int)),some (.int (n:Int)),some (.ref ra),some (.int ((o3 i:Nat):Int)),v4,none,none,none,none,none,none,none,none,none,none]/\H2=H)
     ⟨none,rfl,rfl⟩ ?_ ?_
   · rintro i σ H2 hi ⟨v4,rfl,rfl⟩;refine ⟨_,rfl,_,rfl,_,_,rfl,rfl,⟨P4 (ar2 (by omega)),?_⟩,some (.int (1+(i:Int))),?_,rfl⟩
     · rw[show (1:Int)+(i:Int)=((i+1:Nat):Int) by omega];exact P4 (dg6 (eg1 (show i+1<=40^1 by omega) (p40 1 (by decide))))
     · have e:((o3 (i+1):Nat):Int)=((o3 i:Nat):Int)*(1+(i:Int)):=by
         show (((i+1)*o3 i:Nat):Int)=_;rw[eh3,Int.mul_comm]
         congr 1
         omega
       rw[e];rfl
   rintro σ H2 ⟨v4,rfl,rfl⟩;refine ⟨_,rfl,_,rfl,ra,_,rfl,.inl (g9.of hra),_,_,rfl,rfl,(show 4<=sizeLine by decide),fun t0 nt0=> ?_⟩;refine ⟨(show 1<=sizeLine by decide),fun pl npl=> ?_⟩
   have ll:((K0 rs).map V.int).length=rs.length:=by unfold K0;rw[ed2,ed2]
   have npt:pl≠t0:=fun z=>by rw[z,c7] at npl;cases npl
   have npl2:H2 pl=none:=by rw[g8 npt] at npl;exact npl
   have s1:c6 H2 (c9 (c9 H2 t0 (.tup (ndV ⟨n,rs.length,1,1,1⟩))) pl (.lst [.ref t0])):=(c6.upd_new nt0).upd_r npl2
   have h1:P3 (c9 (c9 H2 t0 (.tup (ndV ⟨n,rs.length,1,1,1⟩))) pl (.lst [.ref t0])) pl n rs [t0] [⟨n,rs.length,1,1,1⟩]:=by
     have z:P3 (c9 (c9 H2 t0 (.tup (ndV ⟨n,rs.length,1,1,1⟩))) pl (.lst [])) pl n rs [] []:=⟨c7,rfl,fun i t x e=>(by cases e),fun x hx=>(by cases hx),fun i x e=>(by cases e),fun t ht=>(by cases ht)⟩;have z2:=z.push (t:=t0) (x:=⟨n,rs.length,1,1,1⟩) (by rw[g8 npt.symm];exact c7) ⟨ed5 _,ed5 _,rfl.trans (ej4 _ _),ed5 _,by rw[en3];exact ed5 _,by rw[en3];exact ed5 _⟩ (by show rs.length+0/42<=_;omega) npt.symm;rw[dg9] at z2;exact z2
   refine ⟨fun mm σ H3=>∃(tot:Nat) (ts:List Addr) (nds:List Nd) (v4 v7 v8 v9 v10 v11 v12 v13 v14:Option V),σ=[some (.int (l:Int)),some (.int (n:Int)),some (.ref ra),some (.int ((o3 n:Nat):Int)),v4,some (.int (tot:Int)),some (.ref pl),v7,v8,v9,v10,v11,v12,v13,v14]/\P3 H3 pl n rs ts nds/\c6 H2 H3/\tot+(nds.map (aa0 l rs)).sum=jf l rs n/\mm=(nds.map fun x=>cst rs x.a x.left).sum,⟨_,0,[t0],[⟨n,rs.length,1,1,1⟩],v4,none,none,none,none,none,none,none,none,rfl,?_,?_,?_,rfl⟩,?_⟩
   · rw[ll];exact h1
   · rw[ll];exact s1
   · show 0+(1*jf l (rs.take rs.length) n+0)=_;rw[eg4];omega
   rintro mm σ H3 ⟨tot,ts,nds,v4,v7,v8,v9,v10,v11,v12,v13,v14,rfl,hp,s3,et,rfl⟩;refine ⟨_,rfl,(show 0<=sizeLine by decide),fun ne nne=> ?_⟩;have hp4:=hp.keep (c6.upd_new (o:= .lst []) nne);have s4:c6 H2 (c9 H3 ne (.lst [])):=s3.trans (c6.upd_new nne);have hn4:(c9 H3 ne (.lst [])) ne=some (.lst []):=c7;refine ⟨pl,ne,_,[],_,rfl,rfl,g9.of hp4.at_,g9.of hn4,bm4 _ _ _ _,_,rfl,?_⟩;clear hn4;generalize c9 H3 ne (.lst [])=H4 at hp4 s4 ⊢;clear hp nne s3
   rcases List.eq_nil_or_concat nds with c|⟨nds',x,c⟩
   · subst c;have:ts=[]:=em4.mp hp4.len;subst this;refine ⟨_,rfl,?_⟩;have:tot=jf l rs n:=et;rw[this];exact q _ s4
   rw[List.concat_eq_append] at c;subst c;obtain ⟨ts',t,rfl,ht,hp5,okx,lvx⟩:=hp4.pop
   have e1:(!((ts'++[t]).map V.ref).isEmpty)=true:=by cases ts'<;>rfl
   rw[if_pos rfl,e1,if_pos rfl];refine ⟨fun σ' H'=>∃m',m' < _/\_,fun _ _ h=>h,?_⟩;have ets:(ts'++[t]).map V.ref=ts'.map V.ref++[.ref t]:=ed8
   have h4p:H4 pl=some (.lst (ts'.map V.ref++[.ref t])):=by rw[hp4.at_,ets]
   have ntp:t≠pl:=hp4.ne t (ef1 _ (ee3.mpr rfl))
   have et5:(c9 H4 pl (.lst (ts'.map V.ref))) t=some (.tup (ndV x)):=by rw[g8 ntp];exact ht
   have s5:c6 H2 (c9 H4 pl (.lst (ts'.map V.ref))):=s4.upd_r npl2;refine ⟨_,rfl,.inl ⟨rfl,_,g9.of h4p⟩,pl,_,_,rfl,rfl,h4p,show _=some (V.ref t) from ?_,?_⟩
   · rw[ed6,ef6 (by simp)];simp
   rw[List.dropLast_concat];refine ⟨t,_,rfl,R6.of et5,rfl,_,_,rfl,_,_,rfl,_,_,rfl,_,_,rfl,rfl,?_⟩;clear h4p ets ht hp4 s4 et5;generalize c9 H4 pl (.lst (ts'.map V.ref))=H5 at hp5 s5 ⊢;refine ⟨_,rfl,rfl,_,rfl,?_⟩;have fb:=ar2 hn;have tb:=ag0 okx.tb (by omega);have bb:=ag0 okx.bb (by omega);rw[ed8,eq6] at et;have et:tot+((nds'.map (aa0 l rs)).sum+(aa0 l rs x+0))=jf l rs n:=et
   have ec:((nds'++[x]).map fun x=>cst rs x.a x.left).sum=(nds'.map fun x=>cst rs x.a x.left).sum+cst rs x.a x.left:=by rw[ed8,eq6];rfl
   have cp:=dm3 rs x.a x.left
   by_cases c0:x.left=0
   · rw[decide_eq_true (by rw[c0];rfl)];refine J8 ⟨_,rfl,_,rfl,_,rfl,_,_,rfl,rfl,⟨P4 fb,P4 tb⟩,_,rfl,_,_,rfl,rfl,⟨by have:=okx.b1;omega,cx5 bb⟩,_,_,rfl,rfl,?_⟩
     have ev:(tot:Int)+((o3 n:Nat):Int)*(x.t:Int)/(x.b:Int)=((tot+x.q:Nat):Int):=by
       have eq:=okx.eq;rw[c0,show o3 0=1 from rfl,em5] at eq;rw[<-eh3,eq,<-Int.natCast_ediv,Nat.mul_div_cancel _ okx.b1];rfl
     have vx:aa0 l rs x=x.q:=by unfold aa0;rw[c0,dm2,em5]
     refine ⟨(nds'.map fun x=>cst rs x.a x.left).sum,by rw[ec];omega,tot+x.q,ts',nds',v4,some (.int (x.left:Int)),some (.int ((x.a:Int) - 1)),some (.int (x.t:Int)),some (.int (x.b:Int)),v11,v12,v13,v14,?_,hp5,s5,by rw[<-et,vx];omega,rfl⟩;rw[<-ev];rfl
   · rw[decide_eq_false (fun z=>c0 (by have:=V.int.inj z;omega))];refine y7 ⟨_,rfl,_,_,rfl,rfl,_,rfl,?_⟩
     by_cases ca:x.a=0
     · rw[decide_eq_false (by omega)]
       have vx:aa0 l rs x=0:=by unfold aa0;rw[ca];show x.q*jf l [] x.left=0;rw[dt1 (by omega)];rfl
       refine y7 ⟨(nds'.map fun x=>cst rs x.a x.left).sum,by rw[ec];omega,tot,ts',nds',v4,_,_,_,_,v11,v12,v13,v14,rfl,hp5,s5,by rw[<-et,vx];omega,rfl⟩
     rw[decide_eq_true (by omega)];obtain ⟨a,ea⟩:∃a,x.a=a+1:=⟨x.a - 1,by omega⟩
     have al:a < rs.length:=by have:=okx.al;omega
     obtain ⟨d,hd⟩:∃d,rs[a]? =some d:=⟨_,ed4 al⟩;obtain ⟨d1,d2⟩:=dr d (ee1 hd);refine J8 ⟨_,rfl,.inl ⟨rfl,_,g9.of hp5.at_⟩,_,rfl,_,rfl,_,_,rfl,rfl,_,rfl,_,rfl,(show 4<=sizeLine by decide),fun t1 nt1=> ?_⟩;have hp5':=hp5.keep (c6.upd_new (o:= .tup [.int (x.left:Int),.int ((x.a:Int) - 1 - 1),.int (x.t:Int),.int (x.b:Int)]) nt1);have few:=hp5.few lr
     have n1p:t1≠pl:=fun z=>by rw[z,hp5.at_] at nt1;cases nt1
     have hp6:=hp5'.push (t:=t1) (x:=W8 l d x 0) (by rw[c7,ea9 (by omega)]) (cc7 okx hl hn d1 d2 (by omega)) (by show x.a - 1+_<=_;omega) n1p;have s6:=(s5.trans (c6.upd_new (o:= .tup [.int (x.left:Int),.int ((x.a:Int) - 1 - 1),.int (x.t:Int),.int (x.b:Int)]) nt1)).upd_r (o:= .lst (ts'.map V.ref++[.ref t1])) npl2;refine ⟨pl,_,_,rfl,rfl,hp5'.at_,eg1 (show _<=2000 by rw[ed2,hp5.len];omega) (by decide),?_⟩;generalize c9 (c9 H5 t1 (.tup [.int (x.left:Int),.int ((x.a:Int) - 1 - 1),.int (x.t:Int),.int (x.b:Int)])) pl (.lst (ts'.map V.ref++[.ref t1]))=H6 at hp6 s6 ⊢
     have hdv:((K0 rs).map V.int)[a]? =some (.int (d:Int)):=by unfold K0;rw[ed9,ed9,hd];rfl
     refine ⟨_,rfl,_,rfl,ra,_,_,_,rfl,rfl,g9.of (s6 _ _ hra),(show atI _ ((x.a:Int) - 1)=some (V.int (d:Int)) from ?_),?_⟩
     · rw[show ((x.a:Int) - 1)=((a:Nat):Int) by omega,S4];exact hdv
     refine ⟨_,rfl,1,(d:Int),rfl,⟨by decide,by decide,by omega,by omega⟩,?_⟩;rw[show ((d:Int) - 1).toNat=d - 1 by omega]
     refine G7 (lo:=1) (n:=d - 1) (fun i σ H7=>∃v4:Option V,σ=[some (.int (l:Int)),some (.int (n:Int)),some (.ref ra),some (.int ((o3 n:Nat):Int)),v4,some (.int (tot:Int)),some (.ref pl),some (.int (x.left:Int)),some (.int ((x.a:Int) - 1)),some (.int (x.t:Int)),some (.int (x.b:Int)),some (.int (d:Int)),some (.int ((o3 i*l^i:Nat):Int)),some (.int ((o3 (i+1):Nat):Int)),v14]/\H7=H6)
       ⟨v4,rfl,rfl⟩ ?_ ?_
     · rintro i σ H7 hi ⟨w4,rfl,rfl⟩;have b1:o3 i*l^i < 2^1000:=ag0 (dx3 hl (by omega)) (by omega)
       have e1:(1+(i:Int))=((i+1:Nat):Int):=by omega
       have b0:(1+(i:Int)).natAbs < 2^20000:=by rw[e1];exact P4 (am9 (by omega))
       have bl:((l:Nat):Int).natAbs < 2^20000:=P4 (am9 (by omega))
       have b2:(((o3 i*l^i:Nat):Int)*(1+(i:Int))).natAbs < 2^20000:=by rw[e1];exact cx7 b1 (am9 (by omega))
       have b3:(1+(i:Int)+1).natAbs < 2^20000:=by rw[e1];exact P4 (x:=i+1+1) (am9 (by omega))
       refine ⟨_,rfl,_,rfl,_,_,rfl,rfl,⟨P4 b1,b0⟩,_,rfl,_,_,rfl,rfl,⟨b2,bl⟩,_,rfl,_,rfl,_,_,rfl,rfl,_,_,rfl,rfl,⟨P4 (ar2 (by omega)),b3⟩,some (.int (1+(i:Int))),?_,rfl⟩
       have g1:((o3 (i+1)*l^(i+1):Nat):Int)=((o3 i*l^i:Nat):Int)*(1+(i:Int))*(l:Int):=by
         rw[e1,<-eh3,<-eh3]
         congr 1
         show (i+1)*o3 i*(l^i*l)=_
         ac_rfl
       have g2:((o3 (i+1+1):Nat):Int)=((o3 (i+1):Nat):Int)*(1+(i:Int)+1):=by
         rw[e1,show (((i+1:Nat):Int)+1)=((i+1+1:Nat):Int) by omega,<-eh3]
         congr 1
         show (i+1+1)*o3 (i+1)=_
         ac_rfl
       rw[g1,g2];rfl
     rintro σ H7 ⟨w4,rfl,rfl⟩;have dl:x.left/d<=40:=ee6 (Nat.div_le_self _ _) (by have:=okx.le;omega);have bd:((d:Nat):Int).natAbs < 2^20000:=P4 (am9 (by omega));have one_big:M3 l d < 2^1000:=ag0 (cx4 hl d2) (by omega);have ed:((x.left:Int)/(d:Int))=((x.left/d:Nat):Int):=(Int.natCast_ediv _ _).symm;refine ⟨_,rfl,_,rfl,_,_,rfl,rfl,⟨by omega,cx5 (am9 (by omega))⟩,_,_,rfl,rfl,1,(x.left:Int)/(d:Int)+1,rfl,⟨by decide,by decide,by rw[ed];generalize x.left/d=kk at dl ⊢;omega,by rw[ed];generalize x.left/d=kk at dl ⊢;omega⟩,?_⟩;rw[show ((x.left:Int)/(d:Int)+1 - 1).toNat=x.left/d by rw[ed];generalize x.left/d=kk at dl ⊢;omega]
     refine G7 (lo:=1) (n:=x.left/d) (fun i σ H8=>∃(ts2:List Addr) (v14:Option V),σ=[some (.int (l:Int)),some (.int (n:Int)),some (.ref ra),some (.int ((o3 n:Nat):Int)),w4,some (.int (tot:Int)),some (.ref pl),some (.int (x.left:Int)),some (.int ((x.a:Int) - 1)),some (.int ((W8 l d x i).t:Int)),some (.int ((W8 l d x i).b:Int)),some (.int (d:Int)),some (.int ((M3 l d:Nat):Int)),some (.int ((o3 d:Nat):Int)),v14]/\P3 H8 pl n rs ts2 (nds'++(ei1 (i+1)).map (W8 l d x))/\c6 H2 H8)
       ⟨ts'++[t1],v14,?_,hp6,s6⟩ ?_ ?_
     · have g1:(W8 l d x 0).t=x.t:=by show x.t*M3 l d^0=_;rw[et9,em5]
       have g2:(W8 l d x 0).b=x.b:=by show x.b*o3 d^0*o3 0=_;rw[et9,em5];exact em5 _
       rw[g1,g2,eu9 d1];rfl
     · rintro i σ H8 hi ⟨ts2,w14,rfl,hp8,s8⟩
       have e1:(1+(i:Int))=((i+1:Nat):Int):=by omega
       have b0:(1+(i:Int)).natAbs < 2^20000:=by rw[e1];exact P4 (am9 (by omega))
       have kd:(i+1)*d<=x.left:=ee6 (ej3 d (show i+1<=x.left/d from hi)) (Nat.div_mul_le_self _ _);have kd0:i*d<=x.left:=ee6 (ej3 d (eq7 i)) kd;have oki:=cc7 (rs:=rs) okx hl hn d1 d2 kd0;have ok2:=cc7 (rs:=rs) okx hl hn d1 d2 kd;have tbi:=ag0 oki.tb (by omega);have bbi:=ag0 oki.bb (by omega);refine ⟨_,rfl,_,rfl,_,_,rfl,rfl,⟨P4 tbi,P4 one_big⟩,_,rfl,_,rfl,_,_,rfl,rfl,⟨P4 bbi,P4 (ar2 d2)⟩,_,rfl,_,_,rfl,rfl,⟨cx7 bbi (ar2 d2),b0⟩,?_⟩;refine ⟨_,rfl,.inl ⟨rfl,_,g9.of hp8.at_⟩,_,rfl,_,rfl,_,rfl,_,_,rfl,rfl,⟨b0,bd⟩,_,_,rfl,rfl,_,rfl,_,_,rfl,rfl,_,rfl,_,rfl,(show 4<=sizeLine by decide),fun t2 nt2=> ?_⟩;have hp8':=hp8.keep (c6.upd_new (o:= .tup (ndV (W8 l d x (i+1)))) nt2);have few8:=hp8.few lr
       have n2p:t2≠pl:=fun z=>by rw[z,hp8.at_] at nt2;cases nt2
       have hp9:=hp8'.push (t:=t2) (x:=W8 l d x (i+1)) c7 ok2 (by show x.a - 1+_<=_;rw[ed6,ed2,eh2];omega) n2p;have s9:=(s8.trans (c6.upd_new (o:= .tup (ndV (W8 l d x (i+1)))) nt2)).upd_r (o:= .lst (ts2.map V.ref++[.ref t2])) npl2;rw[dt3 (by omega) kd] at hp8' hp9 s9;refine ⟨pl,_,_,rfl,rfl,hp8'.at_,eg1 (show _<=2000 by rw[ed2,hp8.len];omega) (by decide),?_⟩;refine ⟨ts2++[t2],some (.int (1+(i:Int))),?_,?_,s9⟩
       · have ec2:ndV (W8 l d x (i+1))=_:=dt3 (by omega) kd;have g1:V.int ((W8 l d x (i+1)).t:Int)=V.int (((W8 l d x i).t:Int)*(M3 l d:Int)):=congrArg (fun z=>z.getD 2 V.non) ec2;have g2:V.int ((W8 l d x (i+1)).b:Int)=V.int (((W8 l d x i).b:Int)*(o3 d:Int)*(1+(i:Int))):=congrArg (fun z=>z.getD 3 V.non) ec2;rw[g1,g2];rfl
       · rw[eq4,ed8,<-ef2];exact hp9
     · rintro σ H8 ⟨ts2,w14,rfl,hp8,s8⟩
       have vv:(((ei1 (x.left/d+1)).map (W8 l d x)).map (aa0 l rs)).sum=aa0 l rs x:=by rw[ej5];exact dm4 (fun d hd=>(dr d hd).1) ea hd
       have cc:(((ei1 (x.left/d+1)).map (W8 l d x)).map fun x=>cst rs x.a x.left).sum+1=cst rs x.a x.left:=by rw[ej5];exact dm5 ea hd
       refine ⟨_,?_,tot,ts2,_,w4,_,_,_,_,_,_,_,w14,rfl,hp8,s8,?_,rfl⟩
       · rw[ec,ed8,eq6];omega
       · rw[ed8,eq6,vv,<-et];omega
theorem R5:n5 ["p","m","found","counts","l"] ["p","m"] (i8 af4):=by rfl'
theorem bl2 {f:Addr}{fd:FuncData}(F:B6 K "_law_how_many" "_law_how_many" af4 f fd)(zi:o4 P w K mg base "_law_counts" 2 ["p"] bf9)(zhz:o4 P w K mg base "_law_woven" 1 ["l","many","rights"] bp5)(ziz:o4 P w K mg base "_law_rights" 1 ["l","m","most"] ba0):m9 P w K mg base E2 3 f fd ["p","m"] ah9:=by
 refine F.ok R5 (fun vs H Q E h=> ?_) (fun cdv A outer s H vs Q E hr h=> ?_)
 · obtain ⟨a,p,m,rfl,⟨ha,tp,lp⟩,m1,q⟩:=h;rfl
 · obtain ⟨a,p,m,rfl,⟨ha,tp,lp⟩,m1,q⟩:=h;have zay:l6 2 _:=hr.mono (by decide);have yzz:l6 1 _:=hr.mono (by decide);have zax:l6 1 _:=hr.mono (by decide);have hu:=Q8 hr;refine ⟨_,@c8 _ _ _ _ _ (@i4 _ _ (2) _ _ _ _ R5.nd rfl (Or.inl rfl) (@h8 _ _ _ _) (by rfl) (by trivial)) (@c8 _ _ _ _ _ (@i4 _ _ (3) _ _ _ _ R5.nd rfl (Or.inl rfl) (@i7 _ _ _ _ _ _ _ _ _ _ zi zay (@e8 _ _ _ (pv 0) (by rfl)) (by rfl) (by decide) (by rfl) (by rfl)) (by rfl) (by trivial)) (@c8 _ _ _ _ _ (@q0 _ _ _ _ _ _ _ _ PassesOwn.never rfl (@bm5 _ _ _ _ (pv 3)) (@i9 _ _ (4) _ R5.nd rfl (Or.inl rfl) (by trivial)) (@g6 _ _ _ (@i4 _ _ (2) _ _ _ _ R5.nd rfl (Or.inl rfl) (@i6 _ _ _ _ _ _ _ _ Q2 (pv 2) (@i7 _ _ _ _ _ _ _ _ _ _ zhz yzz (@e7 _ _ _ _ _ (pv 4) (@e7 _ _ _ _ _ (@ap9 _ _ _ _ _ _ hu (pv 3) (pv 4) (fun _ _=>rfl)) (@e8 _ _ _ (@i7 _ _ _ _ _ _ _ _ _ _ ziz zax (@e7 _ _ _ _ _ (pv 4) (@e7 _ _ _ _ _ (pv 1) (@e8 _ _ _ (@ap9 _ _ _ _ _ _ hu (pv 3) (pv 4) (fun _ _=>rfl)) (by rfl)) (by rfl)) (by rfl)) (by rfl) (by decide) (by rfl) (by rfl)) (by rfl)) (by rfl)) (by rfl)) (by rfl) (by decide) (by rfl) (by rfl))) (by rfl) (by trivial))) (by intro _;rfl)) (@g6 _ _ _ (@j9 _ _ _ _ (pv 2))))),?_⟩;refine av9 ?_;intros
   try dsimp only[t6,Cx.nox,Cx.wish]
   refine ⟨_,rfl,a,p,rfl,⟨ha,tp,lp⟩,fun d kvs ns H1 nd s1 ca bz ln=> ?_⟩;have up:=bf4 tp;generalize hrs:C5 p p.length=rs at ca up;have cl:=af7 up;have fl:=am3 tp up;refine ⟨_,rfl,d,kvs,rfl,ca.at_,fun o=> ?_⟩;have s4:c6 H (c9 H1 d (.frz o (.dK kvs))):=s1.upd_r nd;have h4d:(c9 H1 d (.frz o (.dK kvs))) d=some (.frz o (.dK kvs)):=c7;generalize (c9 H1 d (.frz o (.dK kvs)))=H4 at s4 h4d ⊢
   have lkv:kvs.length=ns.length:=by have:=congrArg ex9 ca.keys;rw[ed2,ed2] at this;exact this
   have cb:∀u,w6 rs u<=40:=fun u=>by
     have:w6 rs u<=rs.length:=List.countP_le_length;omega
   refine au1 (fun i σ H5=>∃(v:Option V),σ=[some (.ref a),some (.int (m:Int)),some (.int ((x8 (fun l=>C9 l m (w6 rs l)) ((ns.take i).map eq8):Nat):Int)),some (.ref d),v]/\c6 H4 H5)
     ⟨none,rfl,c6.refl H4⟩ (fun i σ H5 _ ⟨_,_,e⟩=>e _ _ h4d) ?_ ?_
   · rintro i k v σ H5 hi ⟨v4,rfl,s5⟩
     have hk:(kvs.map (·.1))[i]? =some k:=by rw[ed9,hi];rfl
     rw[show kvs.map (·.1)=ns.map Sum.inl from ca.keys,ed9] at hk
     cases hE:ns[i]? with
     |none=>rw[hE] at hk;cases hk
     |some z=>
      rw[hE] at hk;cases hk;have zm:=ee1 hE;have zb:=bz z zm;obtain ⟨u,rfl⟩:∃u:Nat,z=(u:Int):=⟨z.toNat,by omega⟩;have il:i < ns.length:=(ed3.mp hE).1;have vu:=ca.val u zm;have cu:=cb u
      have pb:x8 (fun l=>C9 l m (w6 rs l)) ((ns.take i).map eq8)<=(1600^40)^i:=by
        have:=bg4 (f:=fun l=>C9 l m (w6 rs l)) (c:=1600^40) (ks:=(ns.take i).map eq8) fun k hk=>by
          obtain ⟨e1,he1,rfl⟩:=ee5.mp hk;have:=bz e1 (ei4 he1);exact ao1 (by omega) (cb _)
        rw[ed2,ee9,et8 (by omega)] at this;exact this
      obtain ⟨F0,hF0⟩:∃F0,F0=x8 (fun l=>C9 l m (w6 rs l)) ((ns.take i).map eq8):=⟨_,rfl⟩;rw[<-hF0] at pb ⊢;refine ⟨_,rfl,_,rfl,_,rfl,_,rfl,d,_,rfl,.inl ⟨kvs,Sum.inl (u:Int),.inr ⟨o,s5 _ _ h4d⟩,rfl,vu.symm⟩,_,rfl,_,rfl,_,rfl,_,rfl,d,_,rfl,.inl ⟨kvs,Sum.inl (u:Int),.inr ⟨o,s5 _ _ h4d⟩,rfl,vu.symm⟩,u,m,w6 rs u,rfl,by omega,cu,fun fa H6 nfa s6 h6=> ?_⟩;refine ⟨u,w6 rs u,fa,_,rfl,h6,by omega,cu,ee6 (Z7 _ _ _) cu,fun d hd=>⟨(K8 hd).1,ee6 (K8 hd).2 cu⟩,fun H7 s7=> ?_⟩;refine ⟨_,_,rfl,rfl,⟨?_,?_⟩,some (.int (u:Int)),?_,(s5.trans s6).trans s7⟩
      · rw[el1];exact eg1 pb (ck0 i (by omega) (by decide))
      · rw[el1];exact eg1 (ao1 (by omega) cu) (bk7 40 (ed5 _) (by decide))
      · rw[m7 hE,ed8,show ([(u:Int)].map eq8:List Nat)=[u] from rfl,au2,<-hF0,eh3];rfl
   · rintro σ H5 ⟨v,rfl,s5⟩;rw[lkv,eg4,az6 tp up (ks:=ns.map eq8) (List.Pairwise.map _ (fun a b h=>h) (List.Pairwise.imp_of_mem (fun {a b} ha hb h=>show a.toNat≠b.toNat from fun e=>h (by have:=bz a ha;have:=bz b hb;omega)) ca.nd)) (fun k hk=> ?_) (fun r hr=> ?_) (f:=fun l=>C9 l m (w6 rs l)) fun u hu=>by show C9 u m (w6 rs u)=1;rw[hu];rfl]
     · rw[<-hrs];exact ⟨_,rfl,q _ (s4.trans s5)⟩
     · obtain ⟨z,hz,rfl⟩:=ee5.mp hk;obtain ⟨r,hr,e⟩:=(ca.all z).mp hz;exact ⟨r,hr,by omega⟩
     · exact ee5.mpr ⟨(r.length:Int),(ca.all _).mpr ⟨r,hr,rfl⟩,rfl⟩
end
end My
namespace My
open PySem L2 Mth
section
variable {P:Program} {w:World} {K:PySem.W.Frag} {mg:Str->Option Value} {base:Heap}
def M6 {α:Type}(R:Addr->α->Prop)(ts:List Addr)(xs:List α):Prop:=ts.length=xs.length/\∀(j:Nat) t x,ts[j]? =some t->xs[j]? =some x->R t x
theorem M6.nil {α:Type}{R:Addr->α->Prop}:M6 R [] ([]:List α):=⟨rfl,fun j t x h=>by cases h⟩
theorem M6.imp {α:Type}{R S:Addr->α->Prop}{ts:List Addr}{xs:List α}(h:M6 R ts xs)(f:∀t x,t∈ts->R t x->S t x):M6 S ts xs:=⟨h.1,fun j t x e1 e2=>f t x (ee1 e1) (h.2 j t x e1 e2)⟩
theorem M6.snoc {α:Type}{R:Addr->α->Prop}{ts:List Addr}{xs:List α}{t:Addr}{x:α}(h:M6 R ts xs)(r:R t x):M6 R (ts++[t]) (xs++[x]):=by
 refine ⟨by rw[ed6,ed6,h.1];rfl,fun j u y e1 e2=> ?_⟩
 by_cases hj:j < ts.length
 · rw[ef8 hj] at e1;rw[ef8 (by rw[<-h.1];exact hj)] at e2;exact h.2 j u y e1 e2
 · rw[ef6 (by omega)] at e1;rw[ef6 (by rw[<-h.1];omega),<-h.1] at e2;have jl:=(ed3.mp e1).1
   have:j - ts.length=0:=by simp at jl;omega
   rw[this] at e1 e2;cases e1;cases e2;exact r
theorem M6.get {α:Type}{R:Addr->α->Prop}{ts:List Addr}{xs:List α}(h:M6 R ts xs){j:Nat}{t:Addr}(e:ts[j]? =some t):∃x,xs[j]? =some x/\R t x:=by
 have jl:=(ed3.mp e).1;exact ⟨_,ed4 (by rw[<-h.1];exact jl),h.2 j t _ e (ed4 _)⟩
def O6 (H:Hp)(zs:List Addr):Hp:=fun a=>if a∈zs then none else H a
theorem P5 {H:Hp}{zs:List Addr}{a:Addr}(h:a∉zs):O6 H zs a=H a:=if_neg h
theorem X9 {H:Hp}{zs:List Addr}{a:Addr}{u:HO}(e:O6 H zs a=some u):a∉zs/\H a=some u:=by
 unfold O6 at e
 by_cases c:a∈zs
 · rw[if_pos c] at e;cases e
 · rw[if_neg c] at e;exact ⟨c,e⟩
theorem bp6 {H:Hp}{zs:List Addr}{o:Addr}{x:HO}(ho:o∈zs):O6 (c9 H o x) zs=O6 H zs:=funext fun a=>by
 unfold O6
 by_cases e:a∈zs
 · rw[if_pos e,if_pos e]
 · rw[if_neg e,if_neg e,g8 (show a≠o from fun z=>e (by rw[z];exact ho))]
theorem cc9 (H:Hp)(zs:List Addr):c6 (O6 H zs) H:=fun a u e=>(X9 e).2
theorem aa5 {H H':Hp}{zs:List Addr}{o:Addr}(ho:o∈zs)(k:j5 o H H'):c6 (O6 H zs) (O6 H' zs):=fun a u e=>by
 obtain ⟨c,e⟩:=X9 e;rw[P5 c];exact k a u e (fun z=>c (by rw[z];exact ho))
theorem L6 {H H':Hp}{zs:List Addr}(s:c6 H H'):c6 (O6 H zs) (O6 H' zs):=fun a u e=>by
 obtain ⟨c,e⟩:=X9 e;rw[P5 c];exact s a u e
theorem cd0 {H H':Hp}{zs:List Addr}{o:Addr}(s:c6 H H')(ho:H o=none):c6 (O6 H zs) (O6 H' (o::zs)):=fun a u e=>by
 obtain ⟨c,e⟩:=X9 e;rw[P5 fun z=>(ee8.mp z).elim (fun y=>by rw[y,ho] at e;cases e) c];exact s a u e
theorem cd1 {H:Hp}{zs:List Addr}{o:Addr}:c6 (O6 H (o::zs)) (O6 H zs):=fun a u e=>by
 obtain ⟨c,e⟩:=X9 e;rw[P5 fun z=>c (ee0 _ z)];exact e
def W9 (H:Hp)(zs:List Addr):Prop:=∀z∈zs,∃u,H z=some u
theorem W9.keep {H H':Hp}{zs:List Addr}(h:W9 H zs)(s:c6 H H'):W9 H' zs:=fun z hz=>by
 obtain ⟨u,e⟩:=h z hz;exact ⟨u,s _ _ e⟩
theorem W9.cons {H:Hp}{zs:List Addr}{o:Addr}{u:HO}(h:W9 H zs)(e:H o=some u):W9 H (o::zs):=fun z hz=>by
 rcases ee8.mp hz with rfl|hz
 · exact ⟨u,e⟩
 · exact h z hz
theorem W9.out {H:Hp}{zs:List Addr}{a:Addr}(h:W9 H zs)(e:H a=none):a∉zs:=fun z=>by
 obtain ⟨u,e'⟩:=h a z;rw[e] at e';cases e'
def pk (rs:List (List Int))(i:Nat)(r:List Int)(b:Nat):List Int×List (List Int):=(r.drop b++r.take b,rs.take i++rs.drop (i+1))
def ar3 (rs:List (List Int))(i:Nat)(r:List Int):List (List Int×List (List Int)):=(ei1 r.length).map (pk rs i r)
def P6 (rs:List (List Int)):Nat->List (List Int×List (List Int))
 |0=>[]
 |i+1=>P6 rs i++ar3 rs i (rs.getD i [])
def an0 (H:Hp)(t:Addr)(x:List Int×List (List Int)):Prop:=∃(a l:Addr) (as:List Addr),H t=some (.tup [.ref a,.ref l])/\H a=some (.lst (x.1.map V.int))/\H l=some (.lst (as.map V.ref))/\x5 H as x.2
theorem an0.keep {H H':Hp}{t:Addr}{x:List Int×List (List Int)}(h:an0 H t x)(s:c6 H H'):an0 H' t x:=by
 obtain ⟨a,l,as,h1,h2,h3,h4⟩:=h;exact ⟨a,l,as,s _ _ h1,s _ _ h2,s _ _ h3,J2 h4 fun b _ o e=>s b o e⟩
theorem bt1 (rs:List (List Int))(h:∀r∈rs,r.length<=40):∀i,i<=rs.length->(P6 rs i).length<=40*i
 |0,_=>ef5 _
 |i+1,hi=>by
  have:=bt1 rs h i (by omega);show (P6 rs i++ar3 rs i (rs.getD i [])).length<=_;rw[ed6];unfold ar3;rw[ed2,eh2]
  have:(rs.getD i []).length<=40:=by
    rw[ee4,ed4 (by omega)];exact h _ (eg9 _)
  omega
theorem cx9 {H:Hp}{as:List Addr}{rs:List (List Int)}(h:x5 H as rs)(i:Nat):x5 H (as.take i) (rs.take i):=
 ⟨by rw[ee9,ee9,h.1],fun j a r e1 e2=>by
   rw[es4] at e1 e2
   by_cases c:j < i
   · rw[if_pos c] at e1 e2;exact h.2 j a r e1 e2
   · rw[if_neg c] at e1;cases e1⟩
theorem cy0 {H:Hp}{as:List Addr}{rs:List (List Int)}(h:x5 H as rs)(i:Nat):x5 H (as.drop i) (rs.drop i):=
 ⟨by rw[eg5,eg5,h.1],fun j a r e1 e2=>by
   rw[ep7] at e1 e2
   exact h.2 _ a r e1 e2⟩
def bp7:Sp:=fun vs H Q _=>∃(l:Addr) (as:List Addr) (rs:List (List Int)) (zs:List Addr),vs=[.ref l]/\H l=some (.lst (as.map V.ref))/\x5 (O6 H zs) as rs/\W9 H zs/\rs.length<=40/\(∀r∈rs,r.length<=40)/\∀(o:Addr) (ts:List Addr) (H':Hp),H o=none->c6 H H'->H' o=some (.lst (ts.map V.ref))->M6 (an0 (O6 H' (o::zs))) ts (P6 rs rs.length)->Q (.ref o) H'
theorem W3:n5 ["rings","picks","at","ring","left","begin"] ["rings"] (i8 au9):=by rfl'
theorem cg2 {f:Addr}{fd:FuncData}(F:B6 K "picks_of" "picks_of" au9 f fd)(B:Bl mg):m9 P w K mg base E2 1 f fd ["rings"] bp7:=by
 refine F.ok W3 (fun vs H Q E h=> ?_) (fun cdv A outer s H vs Q E hr h=> ?_)
 · obtain ⟨l,as,rs,zs,rfl,hl,rows,thz,lr,lr2,q⟩:=h;rfl
 · obtain ⟨l,as,rs,zs,rfl,hl,rows,thz,lr,lr2,q⟩:=h;refine ⟨_,@c8 _ _ _ _ _ (@i4 _ _ (1) _ _ _ _ W3.nd rfl (Or.inl rfl) (@o5 _ _ _ _ (@j8 _)) (by rfl) (by trivial)) (@c8 _ _ _ _ _ (@q0 _ _ _ _ _ _ _ _ PassesOwn.never rfl (@ak1 _ _ _ _ _ _ _ _ B.enum (@e8 _ _ _ (pv 0) (by rfl)) (by rfl) (by rfl)) (@X0 _ _ _ _ _ _ rfl (@A9 _ _ _ _ _ (@i9 _ _ (2) _ W3.nd rfl (Or.inl rfl) (by trivial)) (@A9 _ _ _ _ _ (@i9 _ _ (3) _ W3.nd rfl (Or.inl rfl) (by trivial)) (@S2 _) (by rfl)) (by rfl)) (by rfl) (by rfl)) (@c8 _ _ _ _ _ (@i4 _ _ (4) _ _ _ _ W3.nd rfl (Or.inl rfl) (@i6 _ _ _ _ _ _ _ _ Q7 (@O9 _ _ _ _ _ _ _ _ _ _ S6 (pv 0) (@S3 _) (@Q0 _ _ _ (pv 2))) (@O9 _ _ _ _ _ _ _ _ _ _ S6 (pv 0) (@Q0 _ _ _ (@i6 _ _ _ _ _ _ _ _ C0 (pv 2) (@h8 _ _ _ _))) (@S3 _))) (by rfl) (by trivial)) (@g6 _ _ _ (@q0 _ _ _ _ _ _ _ _ PassesOwn.never rfl (@Q6 _ _ _ _ _ _ (by rfl) B.range (@e8 _ _ _ (@o8 _ _ _ _ _ B.len (@e8 _ _ _ (pv 3) (by rfl)) (by rfl) (by rfl)) (by rfl)) (by rfl)) (@i9 _ _ (5) _ W3.nd rfl (Or.inl rfl) (by trivial)) (@g6 _ _ _ (@w9 _ _ _ _ (@B0 _ _ _ _ _ _ _ (pv 1) (@e8 _ _ _ (@ah1 _ _ _ _ _ (@e7 _ _ _ _ _ (@i6 _ _ _ _ _ _ _ _ Q7 (@O9 _ _ _ _ _ _ _ _ _ _ S6 (pv 3) (@Q0 _ _ _ (pv 5)) (@S3 _)) (@O9 _ _ _ _ _ _ _ _ _ _ S6 (pv 3) (@S3 _) (@Q0 _ _ _ (pv 5)))) (@e8 _ _ _ (pv 4) (by rfl)) (by rfl))) (by rfl)) (by rfl) (by rfl) (by rfl) (by rfl) (by rfl)) (by rfl))) (by intro _;rfl)))) (by intro _;rfl)) (@g6 _ _ _ (@j9 _ _ _ _ (pv 1)))),?_⟩
   try dsimp only[t6,Cx.nox,Cx.wish]
   refine ⟨ef5 _,fun o ho=> ?_⟩;have s1:c6 H (c9 H o (.lst [])):=c6.upd_new ho;have h1o:(c9 H o (.lst [])) o=some (.lst (([]:List Addr).map V.ref)):=c7;generalize (c9 H o (.lst []))=H1 at s1 h1o ⊢;have nlo:l≠o:=g7 hl ho
   refine ⟨_,rfl,l,rfl,⟨_,g9.of (s1 _ _ hl)⟩,al2 (K:=K) (a:=l) (xs:=as.map V.ref) (fun i σ H2=>∃(ts:List Addr) (v2 v3 v4 v5:Option V),σ=[some (.ref l),some (.ref o),v2,v3,v4,v5]/\H2 o=some (.lst (ts.map V.ref))/\M6 (an0 (O6 H2 (o::zs))) ts (P6 rs i)/\c6 H H2)
     ⟨[],none,none,none,none,rfl,h1o,M6.nil,s1⟩ (fun i σ H2 _ zz=>by obtain ⟨_,_,_,_,_,_,_,_,s⟩:=zz;exact g9.of (s _ _ hl)) ?_ ?_⟩
   · rintro i y σ H2 tt hi ⟨ts,v2,v3,v4,v5,rfl,h2o,ats,s2⟩ htt
     obtain ⟨a,ha,rfl⟩:∃a,as[i]? =some a/\y=V.ref a:=by
       rw[ed9] at hi
       cases e:as[i]? with
       |none=>rw[e] at hi;cases hi
       |some a=>rw[e] at hi;exact ⟨a,rfl,(Option.some.inj hi).symm⟩
     have il:i < rs.length:=by rw[<-rows.1];exact (ed3.mp ha).1
     obtain ⟨r,hr⟩:∃r,rs[i]? =some r:=⟨_,ed4 il⟩
     have er:rs.getD i []=r:=by rw[ee4,hr];rfl
     have lr40:=lr2 r (ee1 hr);have h0a:=(X9 (rows.2 i a r ha hr)).2;have s3:c6 H2 (c9 H2 tt (.tup [.int (i:Int),.ref a])):=c6.upd_new htt;have h3t:(c9 H2 tt (.tup [.int (i:Int),.ref a])) tt=some (.tup [.int (i:Int),.ref a]):=c7;generalize (c9 H2 tt (.tup [.int (i:Int),.ref a]))=H3 at s3 h3t ⊢;refine ⟨tt,_,rfl,R6.of h3t,rfl,_,_,rfl,_,_,rfl,rfl,?_⟩;have s03:=s2.trans s3
     have la:(as.map V.ref).length=rs.length:=by rw[ed2,rows.1]
     refine ⟨_,rfl,_,rfl,_,rfl,l,_,rfl,g9.of (s03 _ _ hl),fun x1 hx1=> ?_⟩;rw[bj4 (as.map V.ref) i (by omega),<-ew2];have s4:c6 H3 (c9 H3 x1 (.lst ((as.take i).map V.ref))):=c6.upd_new hx1;have h4x:(c9 H3 x1 (.lst ((as.take i).map V.ref))) x1=some (.lst ((as.take i).map V.ref)):=c7;generalize (c9 H3 x1 (.lst ((as.take i).map V.ref)))=H4 at s4 h4x ⊢;have s04:=s03.trans s4;refine ⟨_,rfl,_,rfl,_,_,rfl,rfl,_,rfl,l,_,rfl,g9.of (s04 _ _ hl),fun x2 hx2=> ?_⟩;rw[show ((i:Int)+1)=((i+1:Nat):Int) by omega,au0 (as.map V.ref) (i+1) (by omega),<-ey4];have s5:c6 H4 (c9 H4 x2 (.lst ((as.drop (i+1)).map V.ref))):=c6.upd_new hx2;have h5x:(c9 H4 x2 (.lst ((as.drop (i+1)).map V.ref))) x2=some (.lst ((as.drop (i+1)).map V.ref)):=c7;generalize (c9 H4 x2 (.lst ((as.drop (i+1)).map V.ref)))=H5 at s5 h5x ⊢;refine ⟨x1,x2,_,_,rfl,rfl,s5 _ _ h4x,h5x,eh1 (m8 (by simp only[ed2,ee9,eg5];have:=rows.1;omega)),fun L hL=> ?_⟩;rw[<-ed8];have s6:c6 H5 (c9 H5 L (.lst ((as.take i++as.drop (i+1)).map V.ref))):=c6.upd_new hL;have h6L:(c9 H5 L (.lst ((as.take i++as.drop (i+1)).map V.ref))) L=some (.lst ((as.take i++as.drop (i+1)).map V.ref)):=c7;generalize (c9 H5 L (.lst ((as.take i++as.drop (i+1)).map V.ref)))=H6 at s6 h6L ⊢;have s26:=((s3.trans s4).trans s5).trans s6;have s06:=s2.trans s26;have th2:W9 H2 (o::zs):=(thz.keep s2).cons h2o;have nLo:L∉o::zs:=(th2.keep ((s3.trans s4).trans s5)).out hL
     have nLo1:L≠o:=fun z=>nLo (z▸ed7)
     have rowsO:x5 (O6 H6 (o::zs)) (as.take i++as.drop (i+1)) (rs.take i++rs.drop (i+1)):=J2 (by4 (cx9 rows i) (cy0 rows (i+1))) fun b _ u e=>cd0 s06 ho b u e
     have ats6:M6 (an0 (O6 H6 (o::zs))) ts (P6 rs i):=ats.imp fun t x _ h=>h.keep (L6 s26)
     refine ⟨_,rfl,a,_,rfl,.inl (g9.of (s06 _ _ h0a)),_,rfl,by rw[ed2];omega,by rw[ed2];omega,?_⟩;rw[ed2,show ((r.length:Int)).toNat=r.length by omega];have tl:=ats.1;have pl:=bt1 rs lr2 i (by omega)
     refine G7 (lo:=0) (n:=r.length) (fun b σ H7=>∃(ts:List Addr) (v5:Option V),σ=[some (.ref l),some (.ref o),some (.int (i:Int)),some (.ref a),some (.ref L),v5]/\H7 o=some (.lst (ts.map V.ref))/\M6 (an0 (O6 H7 (o::zs))) ts (P6 rs i++(ei1 b).map (pk rs i r))/\j5 o H6 H7)
       ⟨ts,v5,rfl,s26 _ _ h2o,by rw[List.range_zero,ep4,eg0];exact ats6,j5.refl _ _⟩ ?_ ?_
     · rintro b σ H7 hb ⟨ts,v5,rfl,h7o,ats7,kb7⟩
       have e0:(0:Int)+(b:Int)=(b:Int):=by omega
       rw[e0];have s07:c6 H H7:=s06.kb kb7 ho;have h7a:=s07 _ _ h0a
       have lts:ts.length<=1700:=by
         have:=ats7.1;rw[ed6,ed2,eh2] at this;omega
       refine ⟨_,rfl,.inl ⟨rfl,_,g9.of h7o⟩,_,rfl,_,rfl,_,rfl,a,_,rfl,g9.of h7a,fun y1 hy1=> ?_⟩;rw[au0 (r.map V.int) b (by rw[ed2];omega),<-ey4];have s8:c6 H7 (c9 H7 y1 (.lst ((r.drop b).map V.int))):=c6.upd_new hy1;have h8y:(c9 H7 y1 (.lst ((r.drop b).map V.int))) y1=some (.lst ((r.drop b).map V.int)):=c7;generalize (c9 H7 y1 (.lst ((r.drop b).map V.int)))=H8 at s8 h8y ⊢;refine ⟨_,rfl,_,rfl,_,rfl,a,_,rfl,g9.of (s8 _ _ h7a),fun y2 hy2=> ?_⟩;rw[bj4 (r.map V.int) b (by rw[ed2];omega),<-ew2];have s9:c6 H8 (c9 H8 y2 (.lst ((r.take b).map V.int))):=c6.upd_new hy2;have h9y:(c9 H8 y2 (.lst ((r.take b).map V.int))) y2=some (.lst ((r.take b).map V.int)):=c7;generalize (c9 H8 y2 (.lst ((r.take b).map V.int)))=H9 at s9 h9y ⊢;refine ⟨y1,y2,_,_,rfl,rfl,s9 _ _ h8y,h9y,eh1 (m8 (by simp only[ed2,ee9,eg5];omega)),fun c hc=> ?_⟩;rw[<-ed8];have s10:c6 H9 (c9 H9 c (.lst ((r.drop b++r.take b).map V.int))):=c6.upd_new hc;have h10c:(c9 H9 c (.lst ((r.drop b++r.take b).map V.int))) c=some (.lst ((r.drop b++r.take b).map V.int)):=c7;generalize (c9 H9 c (.lst ((r.drop b++r.take b).map V.int)))=H10 at s10 h10c ⊢;refine ⟨_,rfl,(show 2<=sizeLine by decide),fun t ht=> ?_⟩;have s11:c6 H10 (c9 H10 t (.tup [.ref c,.ref L])):=c6.upd_new ht;have h11t:(c9 H10 t (.tup [.ref c,.ref L])) t=some (.tup [.ref c,.ref L]):=c7;generalize (c9 H10 t (.tup [.ref c,.ref L]))=H11 at s11 h11t ⊢;have s79:=s8.trans s9;have s710:=s79.trans s10;have s711:=s710.trans s11;have th7:W9 H7 (o::zs):=(thz.keep s07).cons h7o;have nco:c∉o::zs:=(th7.keep s79).out hc;have nto:t∉o::zs:=(th7.keep s710).out ht;refine ⟨o,_,_,rfl,rfl,s711 _ _ h7o,eg1 (show _<=2000 by rw[ed2];omega) (by decide),?_⟩;rw[show ts.map V.ref++[V.ref t]=(ts++[t]).map V.ref by rw[ed8];rfl];refine ⟨ts++[t],_,rfl,c7,?_,(kb7.trans (s711.but o)).upd_a⟩;rw[bp6 ed7,eq4,ed8,<-ef2];refine M6.snoc (ats7.imp fun t x _ h=>h.keep (L6 s711)) ?_;have h7L:=kb7 _ _ h6L nLo1;refine ⟨c,L,_,by rw[P5 nto];exact h11t,by rw[P5 nco];exact s11 _ _ h10c,by rw[P5 nLo];exact s711 _ _ h7L,?_⟩
       exact J2 rowsO fun b _ u e=>(aa5 ed7 (kb7.trans (s711.but o))) b u e
     · rintro σ H7 ⟨ts,v5,rfl,h7o,ats7,kb7⟩;refine ⟨ts,_,_,_,v5,rfl,h7o,?_,s06.kb kb7 ho⟩;show M6 _ ts (P6 rs i++ar3 rs i (rs.getD i []));rw[er];exact ats7
   · rintro σ H2 ⟨ts,v2,v3,v4,v5,rfl,h2o,ats,s2⟩;rw[ed2,rows.1] at ats;exact ⟨_,rfl,q o ts H2 ho s2 h2o ats⟩
def nxC (x:List (List Int)×List (List Int)):List (List (List Int)×List (List Int)):=(P6 x.2 x.2.length).map fun y=>(x.1++[y.1],y.2)
def E4 (rs:List (List Int)):Nat->List (List (List Int)×List (List Int))
 |0=>[([rs.getD 0 []],rs.drop 1)]
 |k+1=>(E4 rs k).flatMap nxC
def U2 (H:Hp)(t:Addr)(x:List (List Int)×List (List Int)):Prop:=∃(c l:Addr) (cs as:List Addr),H t=some (.tup [.ref c,.ref l])/\H c=some (.lst (cs.map V.ref))/\x5 H cs x.1/\H l=some (.lst (as.map V.ref))/\x5 H as x.2
theorem U2.keep {H H':Hp}{t:Addr}{x:List (List Int)×List (List Int)}(h:U2 H t x)(s:c6 H H'):U2 H' t x:=by
 obtain ⟨c,l,cs,as,h1,h2,h3,h4,h5⟩:=h;exact ⟨c,l,cs,as,s _ _ h1,s _ _ h2,J2 h3 fun b _ o e=>s b o e,s _ _ h4,J2 h5 fun b _ o e=>s b o e⟩
theorem bh0 {rs:List (List Int)}:∀(i:Nat) {y:List Int×List (List Int)},y∈P6 rs i->y.2.length<=rs.length/\∀r∈y.2,r∈rs
 |0,y,h=>by cases h
 |i+1,y,h=>by
  rcases ee2.mp h with z|z
  · exact bh0 i z
  · obtain ⟨b,_,rfl⟩:=ee5.mp z;refine ⟨?_,fun r hr=> ?_⟩
    · show (rs.take i++rs.drop (i+1)).length<=_;rw[ed6,ee9,eg5];omega
    · rcases ee2.mp hr with w|w
      · exact ei4 w
      · exact en7 w
theorem bt2 {rs:List (List Int)}:∀(k:Nat) {x:List (List Int)×List (List Int)},x∈E4 rs k->x.2.length<=rs.length/\(∀r∈x.2,r∈rs)/\x.1.length=k+1
 |0,x,h=>by
  rw[ee3.mp h];exact ⟨by show (rs.drop 1).length<=_;rw[eg5];omega,fun r hr=>en7 hr,rfl⟩
 |k+1,x,h=>by
  obtain ⟨x',h',z⟩:=el3.mp h;obtain ⟨y,hy,rfl⟩:=ee5.mp z;obtain ⟨a,b,c⟩:=bt2 k h';obtain ⟨d,e⟩:=bh0 _ hy;exact ⟨ee6 d a,fun r hr=>b r (e r hr),by show (x'.1++[y.1]).length=_;rw[ed6,c];rfl⟩
def aw8:Sp:=fun vs H Q _=>∃(l:Addr) (as:List Addr) (rs:List (List Int)) (zs:List Addr) (part:Nat),vs=[.ref l,.int (part:Int)]/\H l=some (.lst (as.map V.ref))/\l∉zs/\x5 (O6 H zs) as rs/\W9 H zs/\1<=rs.length/\rs.length<=40/\(∀r∈rs,r.length<=40)/\1<=part/\part<=40/\(∀k,k < part->(E4 rs k).length<=2000)/\∀(o:Addr) (ts:List Addr) (H':Hp),H o=none->c6 H H'->H' o=some (.lst (ts.map V.ref))->M6 (U2 (O6 H' zs)) ts (E4 rs (part - 1))->Q (.ref o) H'
theorem L7:n5 ["rings","part","chains","taken","longer","chain","left","ring","rest"] ["rings","part"] (i8 ap0):=by rfl'
theorem cd2 {f:Addr}{fd:FuncData}(F:B6 K "chains_of" "chains_of" ap0 f fd)(B:Bl mg)(zgz:o4 P w K mg base "picks_of" 1 ["rings"] bp7):m9 P w K mg base E2 2 f fd ["rings","part"] aw8:=by
 refine F.ok L7 (fun vs H Q E h=> ?_) (fun cdv A outer s H vs Q E hr h=> ?_)
 · obtain ⟨l,as,rs,zs,part,rfl,hl,nlz,rows,thz,lr1,lr,lr2,p1,p2,few,q⟩:=h;rfl
 · obtain ⟨l,as,rs,zs,part,rfl,hl,nlz,rows,thz,lr1,lr,lr2,p1,p2,few,q⟩:=h;have yzx:l6 1 _:=hr.mono (by decide);refine ⟨_,@c8 _ _ _ _ _ (@i4 _ _ (2) _ _ _ _ L7.nd rfl (Or.inl rfl) (@o5 _ _ _ _ (@e8 _ _ _ (@ah1 _ _ _ _ _ (@e7 _ _ _ _ _ (@o5 _ _ _ _ (@e8 _ _ _ (@N7 _ _ _ _ _ _ _ G1 (pv 0) (@h8 _ _ _ _) (fun _ _=>rfl)) (by rfl))) (@e8 _ _ _ (@O9 _ _ _ _ _ _ _ _ _ _ S6 (pv 0) (@Q0 _ _ _ (@h8 _ _ _ _)) (@S3 _)) (by rfl)) (by rfl))) (by rfl))) (by rfl) (by trivial)) (@c8 _ _ _ _ _ (@q0 _ _ _ _ _ _ _ _ PassesOwn.never rfl (@U5 _ _ _ _ _ _ _ (by rfl) B.range (@e7 _ _ _ _ _ (@h8 _ _ _ _) (@e8 _ _ _ (pv 1) (by rfl)) (by rfl)) (by rfl) (by rfl)) (@i9 _ _ (3) _ L7.nd rfl (Or.inl rfl) (by trivial)) (@c8 _ _ _ _ _ (@i4 _ _ (4) _ _ _ _ L7.nd rfl (Or.inl rfl) (@o5 _ _ _ _ (@j8 _)) (by rfl) (by trivial)) (@c8 _ _ _ _ _ (@q0 _ _ _ _ _ _ _ _ PassesOwn.never rfl (@B8 _ _ _ _ (pv 2)) (@X0 _ _ _ _ _ _ rfl (@A9 _ _ _ _ _ (@i9 _ _ (5) _ L7.nd rfl (Or.inl rfl) (by trivial)) (@A9 _ _ _ _ _ (@i9 _ _ (6) _ L7.nd rfl (Or.inl rfl) (by trivial)) (@S2 _) (by rfl)) (by rfl)) (by rfl) (by rfl)) (@g6 _ _ _ (@q0 _ _ _ _ _ _ _ _ PassesOwn.never rfl (@B8 _ _ _ _ (@i7 _ _ _ _ _ _ _ _ _ _ zgz yzx (@e8 _ _ _ (pv 6) (by rfl)) (by rfl) (by decide) (by rfl) (by rfl))) (@X0 _ _ _ _ _ _ rfl (@A9 _ _ _ _ _ (@i9 _ _ (7) _ L7.nd rfl (Or.inl rfl) (by trivial)) (@A9 _ _ _ _ _ (@i9 _ _ (8) _ L7.nd rfl (Or.inl rfl) (by trivial)) (@S2 _) (by rfl)) (by rfl)) (by rfl) (by rfl)) (@g6 _ _ _ (@w9 _ _ _ _ (@B0 _ _ _ _ _ _ _ (pv 4) (@e8 _ _ _ (@ah1 _ _ _ _ _ (@e7 _ _ _ _ _ (@i6 _ _ _ _ _ _ _ _ Q7 (pv 5) (@o5 _ _ _ _ (@e8 _ _ _ (pv 7) (by rfl)))) (@e8 _ _ _ (pv 8) (by rfl)) (by rfl))) (by rfl)) (by rfl) (by rfl) (by rfl) (by rfl) (by rfl)) (by rfl))) (by intro _;rfl))) (by intro _;rfl)) (@g6 _ _ _ (@i4 _ _ (2) _ _ _ _ L7.nd rfl (Or.inl rfl) (pv 4) (by rfl) (by trivial))))) (by intro _;rfl)) (@g6 _ _ _ (@j9 _ _ _ _ (pv 2)))),?_⟩
   try dsimp only[t6,Cx.nox,Cx.wish]
   obtain ⟨a0,as',rfl⟩:∃a0 as',as=a0::as':=by
     cases as with
     |nil=>have:=rows.1;simp at this;omega
     |cons a t=>exact ⟨a,t,rfl⟩
   obtain ⟨r0,rs',rfl⟩:∃r0 rs',rs=r0::rs':=by
     cases rs with
     |nil=>simp at lr1
     |cons a t=>exact ⟨a,t,rfl⟩
   have h0:O6 H zs a0=some (.lst (r0.map V.int)):=rows.2 0 a0 r0 rfl rfl;refine ⟨_,rfl,l,_,_,_,rfl,rfl,g9.of hl,(S4 (j:=0) rfl),(show 1<=sizeLine by decide),fun c0 hc0=> ?_⟩;have s1:c6 H (c9 H c0 (.lst [V.ref a0])):=c6.upd_new hc0;have h1c:(c9 H c0 (.lst [V.ref a0])) c0=some (.lst (([a0]:List Addr).map V.ref)):=c7;generalize (c9 H c0 (.lst [V.ref a0]))=H1 at s1 h1c ⊢;refine ⟨_,rfl,_,rfl,l,_,rfl,g9.of (s1 _ _ hl),fun x1 hx1=> ?_⟩;rw[show w5 ((a0::as').map V.ref) (some 1) none=as'.map V.ref from au0 ((a0::as').map V.ref) 1 (by simp)];have s2:c6 H1 (c9 H1 x1 (.lst (as'.map V.ref))):=c6.upd_new hx1;have h2x:(c9 H1 x1 (.lst (as'.map V.ref))) x1=some (.lst (as'.map V.ref)):=c7;generalize (c9 H1 x1 (.lst (as'.map V.ref)))=H2 at s2 h2x ⊢;refine ⟨(show 2<=sizeLine by decide),fun t0 ht0=> ?_⟩;have s3:c6 H2 (c9 H2 t0 (.tup [.ref c0,.ref x1])):=c6.upd_new ht0;have h3t:(c9 H2 t0 (.tup [.ref c0,.ref x1])) t0=some (.tup [.ref c0,.ref x1]):=c7;generalize (c9 H2 t0 (.tup [.ref c0,.ref x1]))=H3 at s3 h3t ⊢;refine ⟨(show 1<=sizeLine by decide),fun F0 hF0=> ?_⟩;have s4:c6 H3 (c9 H3 F0 (.lst [V.ref t0])):=c6.upd_new hF0;have h4F:(c9 H3 F0 (.lst [V.ref t0])) F0=some (.lst (([t0]:List Addr).map V.ref)):=c7;generalize (c9 H3 F0 (.lst [V.ref t0]))=H4 at s4 h4F ⊢;have s02:=s1.trans s2;have s03:=s02.trans s3;have s04:=s03.trans s4;have n1:c0∉zs:=thz.out hc0;have n2:x1∉zs:=(thz.keep s1).out hx1;have n3:t0∉zs:=(thz.keep s02).out ht0
   have ch0:U2 (O6 H4 zs) t0 ([r0],rs'):=by
     refine ⟨c0,x1,[a0],as',by rw[P5 n3];exact s4 _ _ h3t,by rw[P5 n1];exact ((s2.trans s3).trans s4) _ _ h1c,⟨rfl,fun j b r e1 e2=> ?_⟩,by rw[P5 n2];exact (s3.trans s4) _ _ h2x,⟨by have:=rows.1;simpa using this,fun j b r e1 e2=> ?_⟩⟩
     · rcases j with _|j
       · cases e1;cases e2;exact L6 s04 _ _ h0
       · cases e1
     · exact L6 s04 _ _ (rows.2 (j+1) b r e1 e2)
   refine ⟨_,rfl,1,(part:Int),rfl,⟨by decide,by decide,by omega,by omega⟩,?_⟩;rw[show ((part:Int) - 1).toNat=part - 1 by omega]
   refine G7 (lo:=1) (n:=part - 1) (fun i σ H5=>∃(F:Addr) (ts:List Addr) (v3 v4 v5 v6 v7 v8:Option V),σ=[some (.ref l),some (.int (part:Int)),some (.ref F),v3,v4,v5,v6,v7,v8]/\H5 F=some (.lst (ts.map V.ref))/\M6 (U2 (O6 H5 zs)) ts (E4 (r0::rs') i)/\c6 H H5/\H F=none)
     ⟨F0,[t0],none,none,none,none,none,none,rfl,h4F,⟨rfl,fun j t x e1 e2=>by
       rcases j with _|j
       · cases e1;cases e2;exact ch0
       · cases e1⟩,s04,s03.free hF0⟩ ?_ ?_
   · rintro i σ H5 hi ⟨F,ts,v3,v4,v5,v6,v7,v8,rfl,h5F,ats,s05,hF⟩;refine ⟨ef5 _,fun L hL=> ?_⟩;have nFL:F≠L:=g7 h5F hL;have hL0:H L=none:=s05.free hL;have s6:c6 H5 (c9 H5 L (.lst [])):=c6.upd_new hL;have h6L:(c9 H5 L (.lst [])) L=some (.lst (([]:List Addr).map V.ref)):=c7;generalize (c9 H5 L (.lst []))=H6 at s6 h6L ⊢
     have ats6:M6 (U2 (O6 H6 (L::zs))) ts (E4 (r0::rs') i):=ats.imp fun t x _ h=>h.keep (cd0 s6 hL)
     have few1:=few (i+1) (by omega)
     refine ⟨_,rfl,F,rfl,⟨_,g9.of (s6 _ _ h5F)⟩,G4 (K:=K) (a:=F) (xs:=ts.map V.ref) (fun j σ H7=>∃(us:List Addr) (v5 v6 v7 v8:Option V),σ=[some (.ref l),some (.int (part:Int)),some (.ref F),some (.int (1+(i:Int))),some (.ref L),v5,v6,v7,v8]/\H7 L=some (.lst (us.map V.ref))/\M6 (U2 (O6 H7 (L::zs))) us (((E4 (r0::rs') i).take j).flatMap nxC)/\j5 L H6 H7)
       ⟨[],v5,v6,v7,v8,rfl,h6L,M6.nil,j5.refl _ _⟩ (fun j σ H7 _ zz=>by obtain ⟨_,_,_,_,_,_,_,_,k⟩:=zz;exact g9.of (k _ _ (s6 _ _ h5F) nFL)) ?_ ?_⟩
     · rintro j y σ H7 hj ⟨us,v5,v6,v7,v8,rfl,h7L,atu,kb7⟩
       obtain ⟨t,ht,rfl⟩:∃t,ts[j]? =some t/\y=V.ref t:=by
         rw[ed9] at hj
         cases e:ts[j]? with
         |none=>rw[e] at hj;cases hj
         |some a=>rw[e] at hj;exact ⟨a,rfl,(Option.some.inj hj).symm⟩
       obtain ⟨x,hx,cx⟩:=ats6.get ht;obtain ⟨c,xl,cs,bs,g1,g2,g3,g4,g5⟩:=cx.keep (aa5 ed7 kb7);obtain ⟨b1,b2,b3⟩:=bt2 i (ee1 hx);refine ⟨t,_,rfl,R6.of (X9 g1).2,rfl,_,_,rfl,_,_,rfl,rfl,?_⟩;have s07:c6 H H7:=(s05.trans s6).kb kb7 hL0;have th7:W9 H7 (L::zs):=(thz.keep s07).cons h7L;refine ⟨_,rfl,xl,bs,x.2,L::zs,rfl,(X9 g4).2,g5,th7,by omega,fun r hr=>lr2 r (b2 r hr),fun o ps H8 ho s8 h8o atp=> ?_⟩;have noL:o≠L:=(g7 h7L ho).symm;have cx8:U2 (O6 H8 (L::zs)) t x:=U2.keep ⟨c,xl,cs,bs,g1,g2,g3,g4,g5⟩ (L6 s8);have lenP:=atp.1
       refine ⟨o,rfl,⟨_,g9.of h8o⟩,G4 (K:=K) (a:=o) (xs:=ps.map V.ref) (fun k σ H9=>∃(us:List Addr) (v7 v8:Option V),σ=[some (.ref l),some (.int (part:Int)),some (.ref F),some (.int (1+(i:Int))),some (.ref L),some (.ref c),some (.ref xl),v7,v8]/\H9 L=some (.lst (us.map V.ref))/\M6 (U2 (O6 H9 (L::zs))) us (((E4 (r0::rs') i).take j).flatMap nxC++(nxC x).take k)/\j5 L H8 H9)
         ⟨us,v7,v8,rfl,s8 _ _ h7L,by rw[eo8,eg0];exact atu.imp fun t x _ h=>h.keep (L6 s8),j5.refl _ _⟩ (fun k σ H9 _ zz=>by obtain ⟨_,_,_,_,_,_,kk⟩:=zz;exact g9.of (kk _ _ h8o noL)) ?_ ?_⟩
       · rintro k y σ H9 hk ⟨us,v7,v8,rfl,h9L,at9,kb9⟩
         obtain ⟨t',ht',rfl⟩:∃t,ps[k]? =some t/\y=V.ref t:=by
           rw[ed9] at hk
           cases e:ps[k]? with
           |none=>rw[e] at hk;cases hk
           |some a=>rw[e] at hk;exact ⟨a,rfl,(Option.some.inj hk).symm⟩
         obtain ⟨y,hy,py⟩:=atp.get ht';obtain ⟨pa,pl,pas,q1,q2,q3,q4⟩:=(py.keep (aa5 (ee0 _ ed7) kb9)).keep cd1;obtain ⟨c',xl',cs',bs',f1,f2,f3,f4,f5⟩:=cx8.keep (aa5 ed7 kb9);have s79:=s8;have e1:=(X9 f1).2;have hc9:H9 c=some (.lst (cs.map V.ref)):=(X9 ((aa5 ed7 kb9) _ _ (L6 s8 _ _ g2))).2
         have g3':x5 (O6 H9 (L::zs)) cs x.1:=J2 g3 fun b _ u e=>(aa5 ed7 kb9) _ _ (L6 s8 _ _ e)
         have lcs:cs.length<=40:=by rw[g3.1,b3];omega
         have th9:W9 H9 (L::zs):=fun z hz=>by
           rcases ee8.mp hz with rfl|hz
           · exact ⟨_,h9L⟩
           · by_cases e:z=L
             · rw[e];exact ⟨_,h9L⟩
             · obtain ⟨u,hu⟩:=(th7.keep s8) z (ee0 _ hz);exact ⟨u,kb9 _ _ hu e⟩
         have hnx:(nxC x)[k]? =some (x.1++[y.1],y.2):=by
           unfold nxC;rw[ed9,hy];rfl
         have lus:us.length<=2000:=by
           rw[at9.1];refine ee6 ?_ few1;show _<=((E4 (r0::rs') i).flatMap nxC).length
           have ex:E4 (r0::rs') i=(E4 (r0::rs') i).take j++x::(E4 (r0::rs') i).drop (j+1):=by
             have jl:=(ed3.mp hx).1;have e3:=(ed3.mp hx).2;rw[<-e3,<-el5 jl,ei8]
           have e4:=congrArg (fun z=>(z.flatMap nxC).length) ex;simp only[en1,ek3,ed6] at e4;rw[e4,ed6,ee9];omega
         refine ⟨t',_,rfl,R6.of (X9 q1).2,rfl,_,_,rfl,_,_,rfl,rfl,?_⟩;refine ⟨_,rfl,.inl ⟨rfl,_,g9.of h9L⟩,_,rfl,_,rfl,(show 1<=sizeLine by decide),fun e he=> ?_⟩;have s10:c6 H9 (c9 H9 e (.lst [V.ref pa])):=c6.upd_new he;have h10e:(c9 H9 e (.lst [V.ref pa])) e=some (.lst [V.ref pa]):=c7;generalize (c9 H9 e (.lst [V.ref pa]))=H10 at s10 h10e ⊢;refine ⟨c,e,_,_,rfl,rfl,s10 _ _ hc9,h10e,eh1 (m8 (by simp only[ed2,ej7];omega)),fun d hd=> ?_⟩;rw[show cs.map V.ref++[V.ref pa]=(cs++[pa]).map V.ref by rw[ed8];rfl];have s11:c6 H10 (c9 H10 d (.lst ((cs++[pa]).map V.ref))):=c6.upd_new hd;have h11d:(c9 H10 d (.lst ((cs++[pa]).map V.ref))) d=some (.lst ((cs++[pa]).map V.ref)):=c7;generalize (c9 H10 d (.lst ((cs++[pa]).map V.ref)))=H11 at s11 h11d ⊢;refine ⟨_,rfl,(show 2<=sizeLine by decide),fun t2 ht2=> ?_⟩;have s12:c6 H11 (c9 H11 t2 (.tup [.ref d,.ref pl])):=c6.upd_new ht2;have h12t:(c9 H11 t2 (.tup [.ref d,.ref pl])) t2=some (.tup [.ref d,.ref pl]):=c7;generalize (c9 H11 t2 (.tup [.ref d,.ref pl]))=H12 at s12 h12t ⊢;have s911:=s10.trans s11;have s912:=s911.trans s12;have nd:d∉L::zs:=(th9.keep s10).out hd;have nt2:t2∉L::zs:=(th9.keep s911).out ht2;refine ⟨L,_,_,rfl,rfl,s912 _ _ h9L,eg1 (show _<=2000 by rw[ed2];omega) (by decide),?_⟩;rw[show us.map V.ref++[V.ref t2]=(us++[t2]).map V.ref by rw[ed8];rfl];refine ⟨us++[t2],_,_,rfl,c7,?_,(kb9.trans (s912.but L)).upd_a⟩;rw[bp6 ed7,m7 hnx,<-ef2];refine M6.snoc (at9.imp fun t x _ h=>h.keep (L6 s912)) ?_;refine ⟨d,pl,cs++[pa],pas,by rw[P5 nt2];exact h12t,by rw[P5 nd];exact s12 _ _ h11d,?_,L6 s912 _ _ q3,J2 q4 fun b _ u e=>L6 s912 _ _ e⟩;exact ab7 (J2 g3' fun b _ u e=>L6 s912 _ _ e) (L6 s912 _ _ q2)
       · rintro σ H9 ⟨us,v7,v8,rfl,h9L,at9,kb9⟩;refine ⟨us,_,_,v7,v8,rfl,h9L,?_,kb7.trans ((s8.but L).trans kb9)⟩;rw[m7 hx,en1,ek3,ep3,eg0];rw[ed2,lenP,show (P6 x.2 x.2.length).length=(nxC x).length by unfold nxC;rw[ed2],eg4] at at9;exact at9
     · rintro σ H7 ⟨us,v5,v6,v7,v8,rfl,h7L,atu,kb7⟩;rw[ed2,ats.1,eg4] at atu;exact ⟨_,rfl,L,us,_,_,_,_,_,_,rfl,h7L,atu.imp fun t x _ h=>h.keep cd1,(s05.trans s6).kb kb7 hL0,hL0⟩
   · rintro σ H5 ⟨F,ts,v3,v4,v5,v6,v7,v8,rfl,h5F,ats,s05,hF⟩;exact ⟨_,rfl,q F ts H5 hF s05 h5F ats⟩
end
end My
namespace My
open PySem L2 Mth
section
variable {P:Program} {w:World} {K:PySem.W.Frag} {mg:Str->Option Value} {base:Heap}
def U3 (es:List (Int×Int)):List (q9×V):=es.map fun e=>((Sum.inl e.1:q9),V.int e.2)
def O3 (rs:List Int):List (Int×Int):=(ei1 rs.length).map fun j=>(rs.getD j 0,rs.getD ((j+1)%rs.length) 0)
theorem dm6 {es:List (Int×Int)}{k v:Int}(h:k∉es.map (·.1)):S7 (U3 es) (Sum.inl k:q9) (.int v)=U3 (es++[(k,v)]):=by
 have ki:KI (U3 es) (es.map (·.1)):=by unfold KI U3;rw[ej5,ej5];rfl
 rw[as4 _ (bm8 ki h)];unfold U3;rw[ed8];rfl
def bc5:Sp:=fun vs H Q _=>∃(d r:Addr) (es:List (Int×Int)) (rs:List Int),vs=[.ref d,.ref r,.int 1]/\H d=some (.dK (U3 es))/\H r=some (.lst (rs.map V.int))/\rs.Nodup/\(∀x∈rs,x∉es.map (·.1))/\es.length<=400/\rs.length<=400/\∀(H':Hp),H' d=some (.dK (U3 (es++O3 rs)))->j5 d H H'->Q .non H'
theorem ai8:n5 ["target","ring","steps","place","thing"] ["target","ring","steps"] (i8 X8):=by rfl'
theorem bv4 {f:Addr}{fd:FuncData}(F:B6 K "send_along" "send_along" X8 f fd)(B:Bl mg):m9 P w K mg base E2 1 f fd ["target","ring","steps"] bc5:=by
 refine F.ok ai8 (fun vs H Q E h=> ?_) (fun cdv A outer s H vs Q E hr h=> ?_)
 · obtain ⟨d,r,es,rs,rfl,hd,hrr,nd,dis,le,lr,q⟩:=h;rfl
 · obtain ⟨d,r,es,rs,rfl,hd,hrr,nd,dis,le,lr,q⟩:=h;have hu:=Q8 hr;refine ⟨_,@g6 _ _ _ (@q0 _ _ _ _ _ _ _ _ PassesOwn.never rfl (@ak1 _ _ _ _ _ _ _ _ B.enum (@e8 _ _ _ (pv 1) (by rfl)) (by rfl) (by rfl)) (@X0 _ _ _ _ _ _ rfl (@A9 _ _ _ _ _ (@i9 _ _ (3) _ ai8.nd rfl (Or.inl rfl) (by trivial)) (@A9 _ _ _ _ _ (@i9 _ _ (4) _ ai8.nd rfl (Or.inl rfl) (by trivial)) (@S2 _) (by rfl)) (by rfl)) (by rfl) (by rfl)) (@g6 _ _ _ (@aj8 _ _ _ _ _ _ _ _ _ hu (pv 0) (pv 4) (@N7 _ _ _ _ _ _ _ G1 (pv 1) (@i6 _ _ _ _ _ _ _ _ C1 (@i6 _ _ _ _ _ _ _ _ C0 (pv 3) (pv 2)) (@o8 _ _ _ _ _ B.len (@e8 _ _ _ (pv 1) (by rfl)) (by rfl) (by rfl))) (fun _ _=>rfl)) rfl)) (by intro _;rfl)),?_⟩
   try dsimp only[t6,Cx.nox,Cx.wish]
   have nrd:r≠d:=fun z=>by rw[z,hd] at hrr;cases hrr
   refine ⟨_,rfl,r,rfl,⟨_,g9.of hrr⟩,al2 (K:=K) (a:=r) (xs:=rs.map V.int) (fun i σ H2=>∃(v3 v4:Option V),σ=[some (.ref d),some (.ref r),some (.int 1),v3,v4]/\H2 d=some (.dK (U3 (es++(O3 rs).take i)))/\j5 d H H2)
     ⟨none,none,rfl,by rw[eo8,eg0];exact hd,j5.refl _ _⟩ (fun i σ H2 _ zz=>by obtain ⟨_,_,_,_,k⟩:=zz;exact g9.of (k _ _ hrr nrd)) ?_ ?_⟩
   · rintro i y σ H2 tt hi ⟨v3,v4,rfl,h2d,kb⟩ htt;obtain ⟨z,hz,rfl⟩:=K7 hi;have hil:i < rs.length:=(ed3.mp hz).1;have h2r:=kb r _ hrr nrd;have s3:c6 H2 (c9 H2 tt (.tup [.int (i:Int),.int z])):=c6.upd_new htt;have h3t:(c9 H2 tt (.tup [.int (i:Int),.int z])) tt=some (.tup [.int (i:Int),.int z]):=c7;generalize (c9 H2 tt (.tup [.int (i:Int),.int z]))=H3 at s3 h3t ⊢;refine ⟨tt,_,rfl,R6.of h3t,rfl,_,_,rfl,_,_,rfl,rfl,?_⟩;have h3r:=s3 _ _ h2r
     have em:((i:Int)+1)%(rs.length:Int)=(((i+1)%rs.length:Nat):Int):=by rw[el9];rfl
     have ml:(i+1)%rs.length < rs.length:=en6 _ (by omega);refine ⟨_,rfl,_,rfl,_,rfl,_,_,rfl,rfl,_,rfl,r,_,rfl,.inl (g9.of h3r),_,_,rfl,rfl,by rw[ed2];omega,r,_,_,_,rfl,rfl,g9.of h3r,(show atI _ _=some (.int (rs.getD ((i+1)%rs.length) 0)) from ?_),?_⟩
     · rw[ed2,em];refine S4 ?_;rw[ed9,ed4 ml,ee4,ed4 ml];rfl
     have lse:(O3 rs).length=rs.length:=by unfold O3;rw[ed2,eh2]
     have hse:(O3 rs)[i]? =some (z,rs.getD ((i+1)%rs.length) 0):=by
       unfold O3;rw[ed9,ek0 hil];show some (rs.getD i 0,rs.getD ((i+1)%rs.length) 0)=_;rw[show rs.getD i 0=z by rw[ee4,hz];rfl]
     have nz:z∉(es++(O3 rs).take i).map (·.1):=by
       rw[ed8];intro hz2
       rcases ee2.mp hz2 with w|w
       · exact dis z (ee1 hz) w
       · obtain ⟨e,he,ee⟩:=ee5.mp w;obtain ⟨j,hj⟩:=eg6.mp he;rw[es4] at hj
         by_cases c:j < i
         · rw[if_pos c] at hj;unfold O3 at hj;rw[ed9,ek0 (by omega)] at hj;cases hj
           have e2:rs[j]? =some z:=by
             rw[ed4 (by omega)];have ee:rs.getD j 0=z:=ee;rw[ee4,ed4 (by omega)] at ee;exact congrArg some ee
           have:=V3 nd (i:=j) (j:=i) (by omega) hil (by omega);rw[ee4,ee4,e2,hz] at this;exact this rfl
         · rw[if_neg c] at hj;cases hj
     have lk:(U3 (es++(O3 rs).take i)).length<=900:=by
       unfold U3;rw[ed2,ed6,ee9,lse];omega
     refine ⟨_,rfl,_,rfl,d,_,rfl,ao4.k (k:=Sum.inl z) (s3 _ _ h2d) (m8 (by omega)),?_⟩;rw[dm6 nz];refine ⟨_,_,rfl,?_,(kb.trans (s3.but d)).upd_a⟩;rw[c7,m7 hse,<-ef2]
   · rintro σ H2 ⟨v3,v4,rfl,h2d,kb⟩
     have lse:(O3 rs).length=rs.length:=by unfold O3;rw[ed2,eh2]
     rw[ed2,<-lse,eg4] at h2d;exact q H2 h2d kb
end
end My
namespace My
open PySem L2 Mth
section
theorem ag1 (r:List Int)(b:Nat):(r.drop b++r.take b).Perm r:=ek6.trans (by rw[ei8])
theorem bt3 {rs:List (List Int)}:∀(i:Nat) {y:List Int×List (List Int)},i<=rs.length->y∈P6 rs i->(y.1++y.2.flatten).Perm rs.flatten/\y.2.length+1=rs.length/\∃r∈rs,y.1.Perm r
 |0,y,_,h=>by cases h
 |i+1,y,hi,h=>by
  rcases ee2.mp h with z|z
  · exact bt3 i (by omega) z
  · obtain ⟨b,_,rfl⟩:=ee5.mp z
    have il:i < rs.length:=by omega
    have eg:rs.getD i []=rs[i]:=by rw[ee4,ed4 il];rfl
    refine ⟨?_,?_,rs[i],eg9 _,?_⟩
    · show (((rs.getD i []).drop b++(rs.getD i []).take b)++(rs.take i++rs.drop (i+1)).flatten).Perm rs.flatten
      have e:rs.flatten=(rs.take i).flatten++(rs[i]++(rs.drop (i+1)).flatten):=by
        rw[<-eh4,<-ek5,<-el5 il,ei8]
      rw[e,eg,ek5];refine ((ag1 _ b).append_right _).trans ?_;rw[<-ef2,<-ef2];exact ek6.append_right _
    · show (rs.take i++rs.drop (i+1)).length+1=_;rw[ed6,ee9,eg5];omega
    · show ((rs.getD i []).drop b++(rs.getD i []).take b).Perm _;rw[eg];exact ag1 _ b
structure dm7 (l:Nat)(rs:List (List Int))(k:Nat)(x:List (List Int)×List (List Int)):Prop where
 perm:(x.1.flatten++x.2.flatten).Perm rs.flatten
 len:x.1.length=k+1
 left:x.2.length+(k+1)=rs.length
 rows:∀r∈x.1,r.length=l
 rows2:∀r∈x.2,r∈rs
theorem Y0 {l:Nat}{rs:List (List Int)}(hl:∀r∈rs,r.length=l):∀(k:Nat) {x:List (List Int)×List (List Int)},k < rs.length->x∈E4 rs k->dm7 l rs k x
 |0,x,hk,h=>by
  rw[ee3.mp h]
  cases rs with
  |nil=>simp at hk
  |cons r rs=>
   refine ⟨?_,rfl,rfl,fun r' hr=> ?_,fun r' hr=>ee0 _ hr⟩
   · show ([r].flatten++rs.flatten).Perm (r::rs).flatten;simp
   · rw[ee3.mp hr];exact hl r ed7
 |k+1,x,hk,h=>by
  obtain ⟨x',h',z⟩:=el3.mp h;obtain ⟨y,hy,rfl⟩:=ee5.mp z;have o:=Y0 hl k (by omega) h';obtain ⟨p1,p2,r,hr,p3⟩:=bt3 _ (ed5 _) hy;refine ⟨?_,?_,?_,fun r' hr'=> ?_,fun r' hr'=>o.rows2 r' ((bh0 _ hy).2 r' hr')⟩
  · show ((x'.1++[y.1]).flatten++y.2.flatten).Perm _;rw[ek5,el4,ef2];exact (p1.append_left _).trans o.perm
  · show (x'.1++[y.1]).length=_;rw[ed6,o.len];rfl
  · show y.2.length+(k+1+1)=_;have:=o.left;omega
  · rcases ee2.mp hr' with w|w
    · exact o.rows r' w
    · rw[ee3.mp w,p3.length_eq];exact hl r (o.rows2 r hr)
theorem bt4 {l:Nat}{rs:List (List Int)}(hl:∀r∈rs,r.length=l):∀i,i<=rs.length->(P6 rs i).length=i*l
 |0,_=>by rw[ei3];rfl
 |i+1,hi=>by
  show (P6 rs i++ar3 rs i (rs.getD i [])).length=_;rw[ed6,bt4 hl i (by omega)];unfold ar3;rw[ed2,eh2,ee4,ed4 (show i < rs.length by omega)];show i*l+(rs[i]).length=_;rw[hl _ (eg9 _),ep2,ey0]
theorem an1 {α β:Type}{f:α->List β}{c:Nat}:∀{xs:List α},(∀x∈xs,(f x).length=c)->(xs.flatMap f).length=xs.length*c
 |[],_=>by rw[ex4,ei3];rfl
 |x::xs,h=>by
  rw[ek3,ed6,h x ed7,an1 fun y hy=>h y (ee0 _ hy),eg3,ep2,ey0,em1]
theorem aw9 {l:Nat}{rs:List (List Int)}(hl:∀r∈rs,r.length=l):∀k,k < rs.length->(E4 rs k).length=t5 rs.length l k
 |0,_=>rfl
 |k+1,hk=>by
  show ((E4 rs k).flatMap nxC).length=t5 rs.length l k*(rs.length - (k+1))*l;rw[an1 (c:=(rs.length - (k+1))*l) fun x hx=> ?_,aw9 hl k (by omega),ek9];have o:=Y0 hl k (by omega) hx;unfold nxC;rw[ed2,bt4 (fun r hr=>hl r (o.rows2 r hr)) _ (ed5 _)];have:=o.left;rw[show x.2.length=rs.length - (k+1) by omega]
open Classical in
noncomputable def P7 (l m:Nat)(Rs:List (List Int)):List Int:=if h:∃J,M4 l (m/Rs.length) Rs J then Classical.choose h else []
theorem cd3 {l m k:Nat}{Rs:List (List Int)}{J:List Int}(l0:0 < l)(r0:1<=Rs.length)(em:m=Rs.length*k)(c:eh9 l k=1)(h:M4 l k Rs J):P7 l m Rs=J:=by
 have ek:m/Rs.length=k:=by rw[em];exact eo1 k r0
 have ex:∃J,M4 l (m/Rs.length) Rs J:=⟨J,by rw[ek];exact h⟩;unfold P7;rw[dif_pos ex];exact M4.uniq l0 (by rw[ek];exact c) (Classical.choose_spec ex) (by rw[ek];exact h)
noncomputable def esW (l m:Nat)(w:List (List (List Int))):List (Int×Int):=w.flatMap fun c=>O3 (P7 l m c)
theorem dd9 (l m:Nat)(w:List (List (List Int)))(c:List (List Int)):esW l m (w++[c])=esW l m w++O3 (P7 l m c):=by
 unfold esW;rw[en1,ek3,ep3,eg0]
def aa1 (f:List (List Int)->List (List (List (List Int))))(rs:List (List Int))(d:Nat):List (List (List (List Int))):=if d<=rs.length then (E4 rs (d - 1)).flatMap fun x=>(f x.2).map fun w=>w++[x.1] else []
def J6 (ds:List Nat):Nat->List (List Int)->List (List (List (List Int)))
 |0,_=>[[]]
 |f+1,rs=>if rs.length=0 then [[]] else ds.flatMap (aa1 (J6 ds f) rs)
theorem bl3 (J:List Int):(O3 J).map (·.1)=J:=by
 unfold O3;rw[ej5]
 refine ej2 fun i=> ?_
 rw[ed9]
 by_cases h:i < J.length
 · rw[ek0 h,ed4 h];show some (J.getD i 0)=_;rw[ee4,ed4 h];rfl
 · rw[ef0 (by rw[eh2];omega),ef0 (by omega)];rfl
def W0 (l m d:Nat):Prop:=1<=d/\eh9 (d*l) m=d
theorem W0.parts {l m d:Nat}(h:W0 l m d)(m1:1<=m):∃k,m=d*k/\eh9 l k=1:=by
 obtain ⟨d1,e⟩:=h
 have dm:d∣m:=by
   have:=es7 (d*l) m;rw[e] at this;exact this
 obtain ⟨k,rfl⟩:=dm;refine ⟨k,rfl,?_⟩;rw[ew5] at e
 have:d*eh9 l k=d*1:=by rw[e,em5]
 exact eo9 d1 this
theorem de0 {l m:Nat}{Rs:List (List Int)}(l0:0 < l)(m1:1<=m)(h:W0 l m Rs.length){J:List Int}{k:Nat}(ek:m=Rs.length*k)(j:M4 l k Rs J):P7 l m Rs=J/\J.Perm Rs.flatten:=by
 obtain ⟨k',e1,e2⟩:=h.parts m1;have:k'=k:=eo9 h.1 (by rw[<-e1,<-ek]);subst this;exact ⟨cd3 l0 h.1 ek e2 j,j.perm l0 e2⟩
structure dx4 (l m:Nat)(ds:List Nat)(rs:List (List Int))(w:List (List (List Int))):Prop where
 perm:(w.map er2).flatten.Perm rs.flatten
 right:∀c∈w,c.length∈ds/\∀r∈c,r.length=l
theorem bl4 {l m:Nat}{ds:List Nat}(hd:∀d∈ds,1<=d):∀(f:Nat) {rs:List (List Int)} {w:List (List (List Int))},rs.length<=f->(∀r∈rs,r.length=l)->w∈J6 ds f rs->dx4 l m ds rs w
 |0,rs,w,hf,hl,h=>by
  have e:rs=[]:=em4.mp (by omega);rw[ee3.mp h,e];exact ⟨List.Perm.refl _,fun c hc=>by cases hc⟩
 |f+1,rs,w,hf,hl,h=>by
  unfold J6 at h
  by_cases c:rs.length=0
  · rw[if_pos c] at h;have e:rs=[]:=em4.mp c;rw[ee3.mp h,e];exact ⟨List.Perm.refl _,fun c hc=>by cases hc⟩
  · rw[if_neg c] at h;obtain ⟨d,hdm,h⟩:=el3.mp h;unfold aa1 at h
    by_cases c2:d<=rs.length
    · rw[if_pos c2] at h;obtain ⟨x,hx,h⟩:=el3.mp h;obtain ⟨w',hw',rfl⟩:=ee5.mp h;have d1:=hd d hdm;have o:=Y0 hl (d - 1) (by omega) hx;have i:=bl4 (m:=m) hd f (rs:=x.2) (w:=w') (by have:=o.left;omega) (fun r hr=>hl r (o.rows2 r hr)) hw';refine ⟨?_,fun c hc=> ?_⟩
      · rw[ed8,ek5];show ((w'.map er2).flatten++[x.1.flatten].flatten).Perm _;rw[el4];exact (ek6.trans (i.perm.append_left _)).trans o.perm
      · rcases ee2.mp hc with z|z
        · exact i.right c z
        · rw[ee3.mp z];exact ⟨by rw[o.len,eu9 d1];exact hdm,o.rows⟩
    · rw[if_neg c2] at h;cases h
end
end My
namespace My
open PySem L2 Mth
section
variable {P:Program} {w:World} {K:PySem.W.Frag} {mg:Str->Option Value} {base:Heap}
def Few (ds:List Nat):Nat->List (List Int)->Prop
 |0,_=>True
 |f+1,rs=>(∀d∈ds,d<=rs.length->(∀k,k < d->(E4 rs k).length<=2000)/\∀x∈E4 rs (d - 1),Few ds f x.2)/\(J6 ds (f+1) rs).length<=2000
def bc6 (l m:Nat)(H:Hp)(u:Addr)(w:List (List (List Int))):Prop:=H u=some (.dK (U3 (esW l m w)))
def ar4 (f:Nat):Sp:=fun vs H Q _=>∃(l:Addr) (as:List Addr) (rs:List (List Int)) (ra:Addr) (ds:List Nat) (len m:Nat),vs=[.ref l,.ref ra,.int (m:Int)]/\H l=some (.lst (as.map V.ref))/\x5 H as rs/\H ra=some (.lst ((K0 ds).map V.int))/\rs.length<=f/\(∀r∈rs,r.length=len)/\0 < len/\rs.length*len<=40/\rs.flatten.Nodup/\1<=m/\(∀d∈ds,W0 len m d)/\Few ds f rs/\
 ∀(o:Addr) (us:List Addr) (H':Hp),H o=none->c6 H H'->H' o=some (.lst (us.map V.ref))->us.Nodup->(∀u∈us,H u=none)->M6 (bc6 len m H') us (J6 ds f rs)->Q (.ref o) H'
theorem an2 {l:Nat}{rs:List (List Int)}(h:∀r∈rs,r.length=l):rs.flatten.length=rs.length*l:=by
 rw[show rs.flatten=rs.flatMap id by rw[List.flatMap_id]];exact an1 h
theorem bt5 {l m:Nat}{c:List (List Int)}(l0:0 < l)(m1:1<=m)(h:W0 l m c.length):(∀x∈P7 l m c,x∈c.flatten)/\(P7 l m c).length<=c.flatten.length:=by
 unfold P7
 by_cases ex:∃J,M4 l (m/c.length) c J
 · rw[dif_pos ex];obtain ⟨k,e1,e2⟩:=h.parts m1
   have ek:m/c.length=k:=by rw[e1];exact eo1 k h.1
   have pm:=(Classical.choose_spec ex).perm l0 (by rw[ek];exact e2);exact ⟨fun x hx=>pm.mem_iff.mp hx,er1 pm.length_eq⟩
 · rw[dif_neg ex];exact ⟨(fun x hx=>by cases hx),ef5 _⟩
theorem an3 {l m:Nat}(l0:0 < l)(m1:1<=m):∀(w:List (List (List Int))),(∀c∈w,W0 l m c.length)->(∀x∈(esW l m w).map (·.1),x∈(w.map er2).flatten)/\(esW l m w).length<=(w.map er2).flatten.length
 |[],_=>⟨(fun x hx=>by cases hx),ed5 _⟩
 |c::w,h=>by
  obtain ⟨a,b⟩:=an3 l0 m1 w fun c hc=>h c (ee0 _ hc)
  obtain ⟨a2,b2⟩:=bt5 l0 m1 (h c ed7)
  have e:esW l m (c::w)=O3 (P7 l m c)++esW l m w:=by unfold esW;rw[ek3]
  rw[e,eh0,eh4,ed8,bl3,ed6,ed6];refine ⟨fun x hx=> ?_,?_⟩
  · rcases ee2.mp hx with z|z
    · exact eh8 _ (a2 x z)
    · exact ef1 _ (a x z)
  · have:(O3 (P7 l m c)).length=(P7 l m c).length:=by unfold O3;rw[ed2,eh2]
    omega
theorem bp8 {α β:Type}{f:α->List β}{xs:List α}{i:Nat}{x:α}(h:xs[i]? =some x):((xs.take i).flatMap f).length+(f x).length<=(xs.flatMap f).length:=by
 have jl:=(ed3.mp h).1;have e3:=(ed3.mp h).2
 have ex:xs=xs.take i++x::xs.drop (i+1):=by rw[<-e3,<-el5 jl,ei8]
 have e4:=congrArg (fun z=>(z.flatMap f).length) ex;simp only[en1,ek3,ed6] at e4;omega
theorem ck1 {H:Hp}{e l:Addr}(he:H e=none)(hl:(c9 H e (.dK [])) l=none)(len m:Nat):H l=none/\c6 H (c9 (c9 H e (.dK [])) l (.lst [V.ref e]))/\M6 (bc6 len m (c9 (c9 H e (.dK [])) l (.lst [V.ref e]))) [e] [[]]:=by
 have n:l≠e:=fun z=>by rw[z,c7] at hl;cases hl
 have hl0:H l=none:=by rw[g8 n] at hl;exact hl
 refine ⟨hl0,(c6.upd_new he).upd_r hl0,rfl,fun j t x e1 e2=> ?_⟩
 rcases j with _|j
 · cases e1;cases e2;show (c9 (c9 H e (.dK [])) l (.lst [V.ref e])) e=_;rw[g8 n.symm,c7];rfl
 · cases e1
theorem y6:n5 ["rings","right","m","ways","part","chain","left","joined","way"] ["rings","right","m"] (i8 Y6):=by rfl'
theorem bl5 {f:Addr}{fd:FuncData}(F:B6 K "ways_to_join" "ways_to_join" Y6 f fd)(B:Bl mg)(zqz:o4 P w K mg base "chains_of" 2 ["rings","part"] aw8)(zry:o4 P w K mg base "join_rings" 1 ["rings","m"] bk5)(zrx:o4 P w K mg base "send_along" 1 ["target","ring","steps"] (bf5 bk4 bc5)):m9 P w K mg base E2 3 f fd ["rings","right","m"] (ar4 0):=by
 refine F.ok y6 (fun vs H Q E h=> ?_) (fun cdv A outer s H vs Q E hr h=> ?_)
 · obtain ⟨l,as,rs,ra,ds,len,m,rfl,hl,rows,hra,lf,hlen,len0,l40,nd,m1,rt,few,q⟩:=h;rfl
 · obtain ⟨l,as,rs,ra,ds,len,m,rfl,hl,rows,hra,lf,hlen,len0,l40,nd,m1,rt,few,q⟩:=h;have ziy:l6 2 _:=hr.mono (by decide);have zjy:l6 1 _:=hr.mono (by decide);have zjx:l6 1 _:=hr.mono (by decide);refine ⟨_,@c8 _ _ _ _ _ (@y8 _ _ _ _ _ _ _ _ (@j6 _ _ _ _ _ _ _ _ ac3 (@o8 _ _ _ _ _ B.len (@e8 _ _ _ (pv 0) (by rfl)) (by rfl) (by rfl)) (@h8 _ _ _ _) (j7 _)) (@g6 _ _ _ (@j9 _ _ _ _ (@o5 _ _ _ _ (@e8 _ _ _ (@V0 _ _) (by rfl))))) (@o7 _)) (@c8 _ _ _ _ _ (@i4 _ _ (3) _ _ _ _ y6.nd rfl (Or.inl rfl) (@o5 _ _ _ _ (@j8 _)) (by rfl) (by trivial)) (@c8 _ _ _ _ _ (@q0 _ _ _ _ _ _ _ _ PassesOwn.never rfl (@B8 _ _ _ _ (pv 1)) (@i9 _ _ (4) _ y6.nd rfl (Or.inl rfl) (by trivial)) (@g6 _ _ _ (@y8 _ _ _ _ _ _ _ _ (@j6 _ _ _ _ _ _ _ _ cl2 (pv 4) (@o8 _ _ _ _ _ B.len (@e8 _ _ _ (pv 0) (by rfl)) (by rfl) (by rfl)) (j7 _)) (@g6 _ _ _ (@q0 _ _ _ _ _ _ _ _ PassesOwn.never rfl (@B8 _ _ _ _ (@i7 _ _ _ _ _ _ _ _ _ _ zqz ziy (@e7 _ _ _ _ _ (pv 0) (@e8 _ _ _ (pv 4) (by rfl)) (by rfl)) (by rfl) (by decide) (by rfl) (by rfl))) (@X0 _ _ _ _ _ _ rfl (@A9 _ _ _ _ _ (@i9 _ _ (5) _ y6.nd rfl (Or.inl rfl) (by trivial)) (@A9 _ _ _ _ _ (@i9 _ _ (6) _ y6.nd rfl (Or.inl rfl) (by trivial)) (@S2 _) (by rfl)) (by rfl)) (by rfl) (by rfl)) (@c8 _ _ _ _ _ (@i4 _ _ (7) _ _ _ _ y6.nd rfl (Or.inl rfl) (@i7 _ _ _ _ _ _ _ _ _ _ zry zjy (@e7 _ _ _ _ _ (pv 5) (@e8 _ _ _ (pv 2) (by rfl)) (by rfl)) (by rfl) (by decide) (by rfl) (by rfl)) (by rfl) (by trivial)) (@g6 _ _ _ (@q0 _ _ _ _ _ _ _ _ PassesOwn.never rfl (@B8 _ _ _ _ (@db9 _ _)) (@i9 _ _ (8) _ y6.nd rfl (Or.inl rfl) (by trivial)) (@c8 _ _ _ _ _ (@w9 _ _ _ _ (@i7 _ _ _ _ _ _ _ _ _ _ zrx zjx (@e7 _ _ _ _ _ (pv 8) (@e7 _ _ _ _ _ (pv 7) (@e8 _ _ _ (@h8 _ _ _ _) (by rfl)) (by rfl)) (by rfl)) (by rfl) (by decide) (by rfl) (by rfl)) (by rfl)) (@g6 _ _ _ (@w9 _ _ _ _ (@B0 _ _ _ _ _ _ _ (pv 3) (@e8 _ _ _ (pv 8) (by rfl)) (by rfl) (by rfl) (by rfl) (by rfl) (by rfl)) (by rfl)))) (by intro _;rfl)))) (by intro _;rfl))) (@o7 _))) (by intro _;rfl)) (@g6 _ _ _ (@j9 _ _ _ _ (pv 3))))),?_⟩;refine av9 ?_;intros
   try dsimp only[t6,Cx.nox,Cx.wish]
   refine ⟨_,rfl,l,_,rfl,.inl (g9.of hl),rfl,_,rfl,?_⟩;rw[ed2,rows.1,show rs.length=0 by omega];refine ac4 (fun _=> ?_) (fun h=>absurd (decide_eq_true rfl) h)
   refine fun e he=>⟨(show 1<=sizeLine by decide),fun o ho=> ?_⟩
   obtain ⟨a1,a2,a3⟩:=ck1 he ho len m;exact q o [e] _ a1 a2 c7 (by simp) (fun b hb=>by rw[ee3.mp hb];exact he) a3
theorem bh1 {d k:Nat}{f:Addr}{fd:FuncData}(F:B6 K "ways_to_join" "ways_to_join" Y6 f fd)(B:Bl mg)(zqz:o4 P w K mg base "chains_of" 2 ["rings","part"] aw8)(zry:o4 P w K mg base "join_rings" 1 ["rings","m"] bk5)(zsz:o4 P w K mg base "ways_to_join" (k+3) ["rings","right","m"] (ar4 d))(zrx:o4 P w K mg base "send_along" 1 ["target","ring","steps"] (bf5 bk4 bc5)):m9 P w K mg base E2 (k+3+1) f fd ["rings","right","m"] (ar4 (d+1)):=by
 refine F.ok y6 (fun vs H Q E h=> ?_) (fun cdv A outer s H vs Q E hr h=> ?_)
 · obtain ⟨l,as,rs,ra,ds,len,m,rfl,hl,rows,hra,lf,hlen,len0,l40,nd,m1,rt,few,q⟩:=h;rfl
 · obtain ⟨l,as,rs,ra,ds,len,m,rfl,hl,rows,hra,lf,hlen,len0,l40,nd,m1,rt,few,q⟩:=h;have ziy:l6 2 _:=hr.mono (by omega);have zjy:l6 1 _:=hr.mono (by omega);have zl:l6 (k+3) _:=hr.mono (by omega);have zjx:l6 1 _:=hr.mono (by omega);refine ⟨_,@c8 _ _ _ _ _ (@y8 _ _ _ _ _ _ _ _ (@j6 _ _ _ _ _ _ _ _ ac3 (@o8 _ _ _ _ _ B.len (@e8 _ _ _ (pv 0) (by rfl)) (by rfl) (by rfl)) (@h8 _ _ _ _) (j7 _)) (@g6 _ _ _ (@j9 _ _ _ _ (@o5 _ _ _ _ (@e8 _ _ _ (@V0 _ _) (by rfl))))) (@o7 _)) (@c8 _ _ _ _ _ (@i4 _ _ (3) _ _ _ _ y6.nd rfl (Or.inl rfl) (@o5 _ _ _ _ (@j8 _)) (by rfl) (by trivial)) (@c8 _ _ _ _ _ (@q0 _ _ _ _ _ _ _ _ PassesOwn.never rfl (@B8 _ _ _ _ (pv 1)) (@i9 _ _ (4) _ y6.nd rfl (Or.inl rfl) (by trivial)) (@g6 _ _ _ (@y8 _ _ _ _ _ _ _ _ (@j6 _ _ _ _ _ _ _ _ cl2 (pv 4) (@o8 _ _ _ _ _ B.len (@e8 _ _ _ (pv 0) (by rfl)) (by rfl) (by rfl)) (j7 _)) (@g6 _ _ _ (@q0 _ _ _ _ _ _ _ _ PassesOwn.never rfl (@B8 _ _ _ _ (@i7 _ _ _ _ _ _ _ _ _ _ zqz ziy (@e7 _ _ _ _ _ (pv 0) (@e8 _ _ _ (pv 4) (by rfl)) (by rfl)) (by rfl) (by decide) (by rfl) (by rfl))) (@X0 _ _ _ _ _ _ rfl (@A9 _ _ _ _ _ (@i9 _ _ (5) _ y6.nd rfl (Or.inl rfl) (by trivial)) (@A9 _ _ _ _ _ (@i9 _ _ (6) _ y6.nd rfl (Or.inl rfl) (by trivial)) (@S2 _) (by rfl)) (by rfl)) (by rfl) (by rfl)) (@c8 _ _ _ _ _ (@i4 _ _ (7) _ _ _ _ y6.nd rfl (Or.inl rfl) (@i7 _ _ _ _ _ _ _ _ _ _ zry zjy (@e7 _ _ _ _ _ (pv 5) (@e8 _ _ _ (pv 2) (by rfl)) (by rfl)) (by rfl) (by decide) (by rfl) (by rfl)) (by rfl) (by trivial)) (@g6 _ _ _ (@q0 _ _ _ _ _ _ _ _ PassesOwn.never rfl (@B8 _ _ _ _ (@i7 _ _ _ _ _ _ _ _ _ _ zsz zl (@e7 _ _ _ _ _ (pv 6) (@e7 _ _ _ _ _ (pv 1) (@e8 _ _ _ (pv 2) (by rfl)) (by rfl)) (by rfl)) (by rfl) (by decide) (by rfl) (by rfl))) (@i9 _ _ (8) _ y6.nd rfl (Or.inl rfl) (by trivial)) (@c8 _ _ _ _ _ (@w9 _ _ _ _ (@i7 _ _ _ _ _ _ _ _ _ _ zrx zjx (@e7 _ _ _ _ _ (pv 8) (@e7 _ _ _ _ _ (pv 7) (@e8 _ _ _ (@h8 _ _ _ _) (by rfl)) (by rfl)) (by rfl)) (by rfl) (by decide) (by rfl) (by rfl)) (by rfl)) (@g6 _ _ _ (@w9 _ _ _ _ (@B0 _ _ _ _ _ _ _ (pv 3) (@e8 _ _ _ (pv 8) (by rfl)) (by rfl) (by rfl) (by rfl) (by rfl) (by rfl)) (by rfl)))) (by intro _;rfl)))) (by intro _;rfl))) (@o7 _))) (by intro _;rfl)) (@g6 _ _ _ (@j9 _ _ _ _ (pv 3))))),?_⟩;refine av9 ?_;intros
   try dsimp only[t6,Cx.nox,Cx.wish]
   refine ⟨_,rfl,l,_,rfl,.inl (g9.of hl),rfl,_,rfl,?_⟩;rw[ed2,rows.1]
   by_cases c0:rs.length=0
   · rw[c0];refine ac4 (fun _=> ?_) (fun h=>absurd (decide_eq_true rfl) h)
     refine fun e he=>⟨(show 1<=sizeLine by decide),fun o ho=> ?_⟩
     obtain ⟨a1,a2,a3⟩:=ck1 he ho len m;refine q o [e] _ a1 a2 c7 (by simp) (fun b hb=>by rw[ee3.mp hb];exact he) ?_;unfold J6;rw[if_pos c0];exact a3
   rw[decide_eq_false (fun z=>c0 (by have:=V.int.inj z;omega))];refine y7 ?_;refine ⟨ef5 _,fun W hW=> ?_⟩;have s1:c6 H (c9 H W (.lst [])):=c6.upd_new hW;have h1W:(c9 H W (.lst [])) W=some (.lst (([]:List Addr).map V.ref)):=c7;generalize (c9 H W (.lst []))=H1 at s1 h1W ⊢;have nlW:l≠W:=g7 hl hW;have nrW:ra≠W:=g7 hra hW
   have ewf:J6 ds (d+1) rs=ds.flatMap (aa1 (J6 ds d) rs):=by
     show (if rs.length=0 then _ else _)=_;rw[if_neg c0]
   obtain ⟨few1,few2⟩:=few;rw[ewf] at few2
   have dsv:∀{i:Nat} {y:V},((K0 ds).map V.int)[i]? =some y->∃dd:Nat,ds[i]? =some dd/\y= .int (dd:Int):=fun {i y} h=>by
     unfold K0 at h;rw[ed9,ed9] at h
     cases e:ds[i]? with
     |none=>rw[e] at h;cases h
     |some a=>rw[e] at h;cases h;exact ⟨a,rfl,rfl⟩
   refine ⟨_,rfl,ra,rfl,⟨_,g9.of (s1 _ _ hra)⟩,G4 (K:=K) (a:=ra) (xs:=(K0 ds).map V.int) (fun i σ H2=>∃(us:List Addr) (v4 v5 v6 v7 v8:Option V),σ=[some (.ref l),some (.ref ra),some (.int (m:Int)),some (.ref W),v4,v5,v6,v7,v8]/\H2 W=some (.lst (us.map V.ref))/\us.Nodup/\(∀u∈us,H u=none)/\M6 (bc6 len m H2) us ((ds.take i).flatMap (aa1 (J6 ds d) rs))/\c6 H H2)
     ⟨[],none,none,none,none,none,rfl,h1W,ej6,(fun u hu=>by cases hu),M6.nil,s1⟩ (fun i σ H2 _ zz=>by obtain ⟨_,_,_,_,_,_,_,_,_,_,_,k⟩:=zz;exact g9.of (k _ _ hra)) ?_ ?_⟩
   · rintro i y σ H2 hi ⟨us0,v4,v5,v6,v7,v8,rfl,h2W,und0,ufr0,atu0,s02⟩;obtain ⟨dd,hdd,rfl⟩:=dsv hi;have ddm:=ee1 hdd;have rdd:=rt dd ddm;refine ⟨_,rfl,_,rfl,l,_,rfl,.inl (g9.of (s02 _ _ hl)),_,_,rfl,rfl,_,rfl,?_⟩;rw[ed2,rows.1];rw[m7 hdd,en1,ek3,ep3,eg0]
     by_cases cd:dd<=rs.length
     · rw[decide_eq_true (show (dd:Int)<=(rs.length:Int) by omega)]
       have ewp:aa1 (J6 ds d) rs dd=(E4 rs (dd - 1)).flatMap fun x=>(J6 ds d x.2).map fun w=>w++[x.1]:=if_pos cd
       have tot:=bp8 (f:=aa1 (J6 ds d) rs) hdd;rw[ewp] at tot ⊢;obtain ⟨fewc,fewx⟩:=few1 dd ddm cd;have r40:rs.length<=40:=ee6 (ej0 _ len0) l40
       have row40:∀r∈rs,r.length<=40:=fun r hr=>by
         rw[hlen r hr];exact ee6 (eq5 _ (by omega)) l40
       obtain ⟨kk,emk,gk⟩:=rdd.parts m1;refine J8 ⟨_,rfl,_,rfl,l,as,rs,[W],dd,rfl,s02 _ _ hl,fun z=>nlW (ee3.mp z),J2 rows fun b _ u e=>by rw[P5 fun z=>(g7 e hW) (ee3.mp z)];exact s02 _ _ e,fun z hz=>by rw[ee3.mp hz];exact ⟨_,h2W⟩,by omega,r40,row40,rdd.1,by omega,fewc,fun F ts H3 hF s3 h3F atc=> ?_⟩;have nFW:F≠W:=(g7 h2W hF).symm
       refine ⟨F,rfl,⟨_,g9.of h3F⟩,G4 (K:=K) (a:=F) (xs:=ts.map V.ref) (fun j σ H4=>∃(us:List Addr) (v5 v6 v7 v8:Option V),σ=[some (.ref l),some (.ref ra),some (.int (m:Int)),some (.ref W),some (.int (dd:Int)),v5,v6,v7,v8]/\H4 W=some (.lst (us.map V.ref))/\us.Nodup/\(∀u∈us,H u=none)/\M6 (bc6 len m H4) us ((ds.take i).flatMap (aa1 (J6 ds d) rs)++((E4 rs (dd - 1)).take j).flatMap fun x=>(J6 ds d x.2).map fun w=>w++[x.1])/\j5 W H3 H4)
         ⟨us0,v5,v6,v7,v8,rfl,s3 _ _ h2W,und0,ufr0,by rw[eo8,ep3,eg0];exact atu0.imp fun u w _ h=>s3 _ _ h,j5.refl _ _⟩ (fun j σ H4 _ zz=>by obtain ⟨_,_,_,_,_,_,_,_,_,_,k⟩:=zz;exact g9.of (k _ _ h3F nFW)) ?_ ?_⟩
       · rintro j y σ H4 hj ⟨us,v5,v6,v7,v8,rfl,h4W,und,ufr,atu,kb4⟩
         obtain ⟨t,ht,rfl⟩:∃t,ts[j]? =some t/\y=V.ref t:=by
           rw[ed9] at hj
           cases e:ts[j]? with
           |none=>rw[e] at hj;cases hj
           |some a=>rw[e] at hj;exact ⟨a,rfl,(Option.some.inj hj).symm⟩
         obtain ⟨x,hx,cx⟩:=atc.get ht;obtain ⟨c,xl,cs,bs,g1,g2,g3,g4,g5⟩:=(cx.keep (aa5 ed7 kb4)).keep (cc9 _ _);have xm:=ee1 hx;have ok:=Y0 hlen (dd - 1) (by have:=rdd.1;omega) xm
         have x1l:x.1.length=dd:=by rw[ok.len];have:=rdd.1;omega
         have fewr:=fewx x xm;have s04:c6 H H4:=(s02.trans s3).kb kb4 hW;refine ⟨t,_,rfl,R6.of g1,rfl,_,_,rfl,_,_,rfl,rfl,?_⟩;refine ⟨_,rfl,_,rfl,c,cs,x.1,len,kk,by rw[x1l,<-emk];rfl,g2,g3,by have:=rdd.1;omega,ok.rows,len0,by rw[x1l];exact ee6 (ej3 _ cd) l40,gk,fun jo J H5 hjo s5 h5J jis=> ?_⟩;obtain ⟨ej,pj⟩:=de0 len0 m1 (by rw[x1l];exact rdd) (by rw[x1l];exact emk) jis;have xnd:(x.1.flatten++x.2.flatten).Nodup:=ok.perm.nodup_iff.mpr nd;rw[ek7] at xnd
         have rl2:∀r∈x.2,r.length=len:=fun r hr=>hlen r (ok.rows2 r hr)
         have x2l:x.2.length<=d/\x.2.length<=rs.length:=by have:=ok.left;have:=rdd.1;omega
         have x240:x.2.length*len<=40:=ee6 (ej3 _ x2l.2) l40;refine ⟨_,rfl,_,rfl,_,rfl,xl,bs,x.2,ra,ds,len,m,rfl,s5 _ _ g4,J2 g5 fun b _ u e=>s5 _ _ e,s5 _ _ (s04 _ _ hra),x2l.1,rl2,len0,x240,xnd.2.1,m1,rt,fewr,fun o vs H6 ho s6 h6o vnd vfr atv=> ?_⟩;have n5W:=g7 h4W hjo;have h5W:=s5 _ _ h4W;have vno:∀u∈vs,H5 u=none:=vfr
         have jov:jo∉vs:=fun z=>by have:=vno jo z;rw[h5J] at this;cases this
         have Wv:W∉vs:=fun z=>by have:=vno W z;rw[h5W] at this;cases this
         have usv:∀u∈us,u∉vs:=fun u hu z=>by
           obtain ⟨jj,hjj⟩:=eg6.mp hu;obtain ⟨w,_,hw⟩:=atu.get hjj;have e:=vno u z;rw[s5 _ _ hw] at e;cases e
         have ov:o∉vs:=fun z=>by
           obtain ⟨jj,hjj⟩:=eg6.mp z;obtain ⟨w,_,hw⟩:=atv.get hjj;have hw:H6 o=_:=hw;rw[h6o] at hw;cases hw
         have noW:o≠W:=(g7 h5W ho).symm;have jnd:J.Nodup:=pj.nodup_iff.mpr xnd.1
         have jl40:J.length<=40:=by
           rw[pj.length_eq,an2 ok.rows,x1l];exact ee6 (ej3 _ cd) l40
         have tot2:=bp8 (f:=fun x:List (List Int)×List (List Int)=>(J6 ds d x.2).map fun w=>w++[x.1]) hx;rw[ed2] at tot2;have aul:=atu.1;rw[ed6] at aul;have vl:=atv.1
         refine ⟨o,rfl,⟨_,g9.of h6o⟩,G4 (K:=K) (a:=o) (xs:=vs.map V.ref) (fun k σ H7=>∃(v8:Option V),σ=[some (.ref l),some (.ref ra),some (.int (m:Int)),some (.ref W),some (.int (dd:Int)),some (.ref c),some (.ref xl),some (.ref jo),v8]/\H7 W=some (.lst ((us++vs.take k).map V.ref))/\M6 (bc6 len m H7) (us++vs.take k) (((ds.take i).flatMap (aa1 (J6 ds d) rs)++((E4 rs (dd - 1)).take j).flatMap fun x=>(J6 ds d x.2).map fun w=>w++[x.1])++((J6 ds d x.2).take k).map fun w=>w++[x.1])/\(∀jj,k<=jj->∀u w,vs[jj]? =some u->(J6 ds d x.2)[jj]? =some w->bc6 len m H7 u w)/\(∀a u,a≠W->a∉vs->H6 a=some u->H7 a=some u))
           ⟨v8,rfl,by rw[eo8,eg0];exact s6 _ _ h5W,by rw[eo8,eo8,ep4,eg0,eg0];exact atu.imp fun u w _ h=>s6 _ _ (s5 _ _ h),fun jj _ u w e1 e2=>atv.2 jj u w e1 e2,fun a u _ _ e=>e⟩ (fun k σ H7 _ zz=>by obtain ⟨_,_,_,_,_,kk⟩:=zz;exact g9.of (kk _ _ noW ov h6o)) ?_ ?_⟩
         · rintro k y σ H7 hk ⟨v8,rfl,h7W,at7,todo,keep7⟩
           obtain ⟨u,hu,rfl⟩:∃t,vs[k]? =some t/\y=V.ref t:=by
             rw[ed9] at hk
             cases e:vs[k]? with
             |none=>rw[e] at hk;cases hk
             |some a=>rw[e] at hk;exact ⟨a,rfl,(Option.some.inj hk).symm⟩
           obtain ⟨w,hw,_⟩:=atv.get hu;have h7u:H7 u=some (.dK (U3 (esW len m w))):=todo k (ed5 _) u w hu hw;have um:=ee1 hu
           have nuW:u≠W:=fun z=>Wv (z▸um)
           have h7J:=keep7 jo _ n5W.symm jov (s6 _ _ h5J);have wok:=bl4 (m:=m) (fun dd h=>(rt dd h).1) d x2l.1 rl2 (ee1 hw)
           obtain ⟨es1,es2⟩:=an3 len0 m1 w fun c hc=>rt _ (wok.right c hc).1
           have es3:(esW len m w).length<=40:=by
             refine ee6 es2 ?_;rw[wok.perm.length_eq,an2 rl2];exact x240
           refine ⟨_,rfl,_,rfl,.inr ⟨u,jo,esW len m w,J,rfl,h7u,h7J,jnd,fun z hz hz2=> ?_,by omega,by omega,fun H8 h8u kb8=> ?_⟩⟩
           · exact xnd.2.2 z (pj.mem_iff.mp hz) z (wok.perm.mem_iff.mp (es1 z hz2)) rfl
           have h8W:=kb8 _ _ h7W nuW.symm;have ltk:(vs.take k).length<=vs.length:=List.length_take_le' _ _;refine ⟨_,rfl,.inl ⟨rfl,_,g9.of h8W⟩,_,rfl,W,_,_,rfl,rfl,h8W,eg1 (show _<=2000 by rw[ed2,ed6];omega) (by decide),?_⟩;rw[show (us++vs.take k).map V.ref++[V.ref u]=(us++vs.take (k+1)).map V.ref by rw[m7 hu,<-ef2,ed8 (l₂:=[u])];rfl]
           have un:∀t∈us++vs.take k,t≠u:=fun t ht z=>by
             subst z
             rcases ee2.mp ht with y|y
             · exact usv t y um
             · obtain ⟨jj,hjj⟩:=eg6.mp y;rw[es4] at hjj
               by_cases c:jj < k
               · rw[if_pos c] at hjj;have a1:=(ed3.mp hjj).1;have a2:=(ed3.mp hu).1;exact eg8.mp (ef9.mp vnd) jj k a1 a2 c (by rw[(ed3.mp hjj).2,(ed3.mp hu).2])
               · rw[if_neg c] at hjj;cases hjj
           refine ⟨_,rfl,c7,?_,fun jj hjj u2 w2 e1 e2=> ?_,fun a v na nv e=> ?_⟩
           · have ea:us++vs.take (k+1)=(us++vs.take k)++[u]:=by rw[m7 hu,ef2]
             have eb:((J6 ds d x.2).take (k+1)).map (fun w=>w++[x.1])=((J6 ds d x.2).take k).map (fun w=>w++[x.1])++[w++[x.1]]:=by rw[m7 hw,ed8];rfl
             rw[ea,eb,<-ef2];refine M6.snoc (at7.imp fun t w2 ht h=> ?_) ?_
             · have h:H7 t=some (.dK (U3 (esW len m w2))):=h;show c9 H8 W _ t=_;rw[g8 (show t≠W from fun z=>by rw[z,h7W] at h;cases h)];exact kb8 _ _ h (un t ht)
             · show c9 H8 W _ u=_;rw[g8 nuW,h8u,dd9,ej]
           · have h:=todo jj (by omega) u2 w2 e1 e2;have h:H7 u2=some (.dK (U3 (esW len m w2))):=h;show c9 H8 W _ u2=_;rw[g8 (show u2≠W from fun z=>Wv (z▸ee1 e1))]
             refine kb8 _ _ h fun z=> ?_
             subst z;have a1:=(ed3.mp e1).1;have a2:=(ed3.mp hu).1;exact eg8.mp (ef9.mp vnd) k jj a2 a1 (by omega) (by rw[(ed3.mp e1).2,(ed3.mp hu).2])
           · rw[g8 na]
             exact kb8 _ _ (keep7 a v na nv e) fun z=>nv (z▸um)
         · rintro σ H7 ⟨v8,rfl,h7W,at7,todo,keep7⟩;rw[ed2,eg4] at h7W at7;rw[vl,eg4] at at7;refine ⟨us++vs,_,_,_,v8,rfl,h7W,?_,fun u hu=> ?_,?_,fun a u e na=> ?_⟩
           · rw[ek7];exact ⟨und,vnd,fun a ha b hb e=>usv a ha (e▸hb)⟩
           · rcases ee2.mp hu with z|z
             · exact ufr u z
             · exact (s04.trans s5).free (vno u z)
           · rw[m7 hx,en1,ek3,ep3,eg0,<-ef2];exact at7
           · have e5:=s5 _ _ (kb4 _ _ e na);exact keep7 a u na (fun z=>by have:=vno a z;rw[e5] at this;cases this) (s6 _ _ e5)
       · rintro σ H4 ⟨us,v5,v6,v7,v8,rfl,h4W,und,ufr,atu,kb4⟩;rw[ed2,atc.1,eg4] at atu;exact ⟨us,_,_,_,_,_,rfl,h4W,und,ufr,atu,(s02.trans s3).kb kb4 hW⟩
     · rw[decide_eq_false (show ¬(dd:Int)<=(rs.length:Int) by omega)];have ewp:aa1 (J6 ds d) rs dd=[]:=if_neg cd;rw[ewp,eg0];exact y7 ⟨us0,_,_,_,_,_,rfl,h2W,und0,ufr0,atu0,s02⟩
   · rintro σ H2 ⟨us,v4,v5,v6,v7,v8,rfl,h2W,und,ufr,atu,s02⟩;rw[show ((K0 ds).map V.int).length=ds.length by unfold K0;rw[ed2,ed2],eg4,<-ewf] at atu;exact ⟨_,rfl,q W us H2 hW s02 h2W und ufr atu⟩
end
end My
namespace My
open PySem L2 Mth PySem.Spec PyProof.Rows
section
variable {P:Program} {w:World} {K:PySem.W.Frag} {mg:Str->Option Value} {base:Heap}
def dt5 (td:TE):TI:=fun σ H R=>td σ H fun x H1=>∃d kvs,x= .ref d/\((H1 d=some (.dK kvs)/\∀o,R (Itd d o kvs) (c9 H1 d (.frz o (.dK kvs))))\/∃o,H1 d=some (.frz o (.dK kvs))/\R (Itd d o kvs) H1)
theorem de1 {X:Cx}{tg l:Expr}{tl:TE}(hl:PE X l tl):PI X tg l (dt5 tl):=by
 intro pins s σ H R I h
 refine r6 (hl pins s σ H _ I h) fun v s1 ⟨x,H1,I1,r1,q1⟩=> ?_
 obtain ⟨d,kvs,e,q⟩:=q1;subst e;cases r1
 rcases q with ⟨hH,q⟩|⟨o,hH,q⟩
 · obtain ⟨_,hsm,vs,rel,o,es,ep,ho,hc,hdat,rr⟩:=(show y9 X.prog X.w H1 s1.heap d (.dK kvs) from I1.hok d _ hH);have hat:s1.heap.DictAt (C8 X.prog X.w) d vs ep:=⟨o,es,ho,hc,hdat,rr⟩;have I2:=I1.freeze hH ho;refine wpAny_pyIter_dict hsm hat ?_;have hlen:kvs.length=vs.length:=rel.length;refine ⟨s1.heap.objs.size,[s1.heap.objs.size],_,_,_,rfl,I2.kept (t':=s1.toks) fun b o e=>Heap.get?_push_of_some _ e,ay9 d _ o kvs es ep hdat,⟨_,Heap.get?_push_size _ rfl,rfl,by rw[hlen];rfl⟩,fun b hb=> ?_,q o⟩
   have e:b=s1.heap.objs.size:=by simpa using hb
   subst e;exact I2.fpOk (ed5 _) (I2.hok.fresh (ed5 _))
 · obtain ⟨ho0,_,hsm,vs,rel,o',es,ep,ho,hc,hdat,rr⟩:=(show y9 X.prog X.w H1 s1.heap d (.frz o (.dK kvs)) from I1.hok d _ hH)
   have eo:o'=o:=by rw[ho0] at ho;exact (Option.some.inj ho).symm
   subst eo;have hat:s1.heap.DictAt (C8 X.prog X.w) d vs ep:=⟨o',es,ho,hc,hdat,rr⟩;refine wpAny_pyIter_dict hsm hat ?_;have hlen:kvs.length=vs.length:=rel.length;refine ⟨s1.heap.objs.size,[s1.heap.objs.size],_,_,_,rfl,I1.kept (t':=s1.toks) fun b o e=>Heap.get?_push_of_some _ e,ay9 d _ o' kvs es ep hdat,⟨_,Heap.get?_push_size _ rfl,rfl,by rw[hlen];rfl⟩,fun b hb=> ?_,q⟩
   have e:b=s1.heap.objs.size:=by simpa using hb
   subst e;exact I1.fpOk (ed5 _) (I1.hok.fresh (ed5 _))
def K1 (t:List Int)(es:List (Int×Int)):List Int:=es.foldl (fun t e=>t.set e.1.toNat e.2) t
theorem bl6 (es:List (Int×Int)):∀t:List Int,(K1 t es).length=t.length:=by
 induction es with
 |nil=>intro t;rfl
 |cons e es ih=>intro t;show (K1 (t.set e.1.toNat e.2) es).length=_;rw[ih,en9]
theorem cg3 (t:List Int)(es:List (Int×Int))(e:Int×Int):K1 t (es++[e])=(K1 t es).set e.1.toNat e.2:=by
 unfold K1;rw[ew3];rfl
def aa6 (laid:List (List Int))(ways:List (List (Int×Int))):List (List Int):=laid.flatMap fun t=>ways.map (K1 t)
def ad6 (p:List Int)(C6:List (List (List (Int×Int)))):List (List Int):=C6.foldl aa6 [p]
theorem bl7 (p:List Int)(C6:List (List (List (Int×Int))))(c:List (List (Int×Int))):ad6 p (C6++[c])=aa6 (ad6 p C6) c:=by
 unfold ad6;rw[ew3];rfl
theorem de2 {n:Nat}{laid:List (List Int)}{ways:List (List (Int×Int))}(h:∀t∈laid,t.length=n):∀t∈aa6 laid ways,t.length=n:=fun t ht=>by
 obtain ⟨t',h',z⟩:=el3.mp ht;obtain ⟨es,_,rfl⟩:=ee5.mp z;rw[bl6];exact h t' h'
theorem bt6 (p:List Int)(C6:List (List (List (Int×Int)))):∀t∈ad6 p C6,t.length=p.length:=by
 have g:∀(C6:List (List (List (Int×Int)))) (laid:List (List Int)),(∀t∈laid,t.length=p.length)->∀t∈C6.foldl aa6 laid,t.length=p.length:=fun C6=>by
   induction C6 with
   |nil=>intro laid h;exact h
   |cons c C6 ih=>intro laid h;exact ih _ (de2 h)
 exact g C6 [p] fun t ht=>by rw[ee3.mp ht]
def ax0 (H:Hp)(u:Addr)(es:List (Int×Int)):Prop:=H u=some (.dK (U3 es))\/∃o,H u=some (.frz o (.dK (U3 es)))
structure Kp (H H':Hp):Prop where
 nd:∀x u,H x=some u->(∀kvs,u≠.dK kvs)->H' x=some u
 tab:∀x es,ax0 H x es->ax0 H' x es
 fr:∀x,H' x=none->H x=none
theorem Kp.refl (H:Hp):Kp H H:=⟨fun _ _ e _=>e,fun _ _ e=>e,fun _ e=>e⟩
theorem Kp.of {H H':Hp}(s:c6 H H'):Kp H H':=⟨fun x u e _=>s _ _ e,fun x es e=>e.elim (fun e=> .inl (s _ _ e)) fun ⟨o,e⟩=> .inr ⟨o,s _ _ e⟩,fun x e=>s.free e⟩
theorem Kp.trans {H H' H'':Hp}(a:Kp H H')(b:Kp H' H''):Kp H H'':=⟨fun x u e n=>b.nd x u (a.nd x u e n) n,fun x es e=>b.tab x es (a.tab x es e),fun x e=>a.fr x (b.fr x e)⟩
theorem Kp.lst {H H':Hp}(k:Kp H H'){a:Addr}{xs:List V}(e:H a=some (.lst xs)):H' a=some (.lst xs):=k.nd a _ e (fun kvs z=>by cases z)
theorem Kp.rows {H H':Hp}(k:Kp H H'){as:List Addr}{rs:List (List Int)}(h:x5 H as rs):x5 H' as rs:=⟨h.1,fun j a r e1 e2=>k.lst (h.2 j a r e1 e2)⟩
theorem Kp.upd_r {H H':Hp}(k:Kp H H'){x:Addr}{o:HO}(n:H x=none):Kp H (c9 H' x o):=by
 have ne:∀a u,H a=some u->a≠x:=fun a u e z=>by rw[z,n] at e;cases e
 refine ⟨fun a u e h=>by rw[g8 (ne a u e)];exact k.nd a u e h,fun a es e=> ?_,fun a e=> ?_⟩
 · have nx:a≠x:=e.elim (fun e=>ne a _ e) fun ⟨_,e⟩=>ne a _ e
   unfold ax0;rw[g8 nx];exact k.tab a es e
 · by_cases z:a=x
   · rw[z];exact n
   · rw[g8 z] at e;exact k.fr a e
theorem Kp.freeze {H:Hp}{u:Addr}{kvs:List (q9×V)}{o:Obj}(e:H u=some (.dK kvs)):Kp H (c9 H u (.frz o (.dK kvs))):=by
 refine ⟨fun a v h n=> ?_,fun a es h=> ?_,fun a h=> ?_⟩
 · rw[g8 fun z=>by rw[z,e] at h;cases h;exact n _ rfl];exact h
 · by_cases z:a=u
   · subst z
     rcases h with h|⟨_,h⟩
     · rw[e] at h;cases h;exact .inr ⟨o,c7⟩
     · rw[e] at h;cases h
   · unfold ax0;rw[g8 z];exact h
 · by_cases z:a=u
   · rw[z,c7] at h;cases h
   · rw[g8 z] at h;exact h
theorem ck2:∀{es:List (Int×Int)} {i:Nat} {e:Int×Int},(es.map (·.1)).Nodup->es[i]? =some e->C3 (U3 es) (Sum.inl e.1:q9)=some (.int e.2)
 |[],i,e,_,h=>by cases h
 |x::es,0,e,_,h=>by cases h;exact L5 rfl
 |x::es,i+1,e,nd,h=>by
  rw[eh0,ei5] at nd;have hm:e∈es:=ee1 h;show C3 ((Sum.inl x.1,V.int x.2)::U3 es) _=_;rw[K4]
  · exact ck2 nd.2 h
  · intro z;have z:x.1=e.1:=Sum.inl.inj z;exact nd.1 (by rw[z];exact List.mem_map_of_mem hm)
def cn5:Sp:=fun vs H Q _=>∃(a ch:Addr) (p:List Int) (cs:List Addr) (C6:List (List (List (Int×Int)))),vs=[.ref a,.ref ch]/\H a=some (.lst (p.map V.int))/\p.length<=40/\H ch=some (.lst (cs.map V.ref))/\
 M6 (fun c ways=>∃us,H c=some (.lst (us.map V.ref))/\M6 (ax0 H) us ways) cs C6/\(∀ways∈C6,∀es∈ways,(es.map (·.1)).Nodup/\∀e∈es,0<=e.1/\e.1 < (p.length:Int))/\(∀i,(ad6 p (C6.take i)).length<=2000)/\
 ∀(o:Addr) (bs:List Addr) (ts:List (List Int)) (H':Hp),H o=none->H' o=some (.lst (bs.map V.ref))->x5 H' bs ts->ts.Perm (ad6 p C6)->ts.Pairwise (fun r r'=>HT.bb3 r' r=false)->bs.Nodup->(∀b∈bs,H b=none)->o∉bs->Kp H H'->Q (.ref o) H'
theorem E5:n5 ["p","choices","laid","ways","wider","turn","way","told","thing"] ["p","choices"] (i8 ad2):=by rfl'
theorem bh2 {f:Addr}{fd:FuncData}(F:B6 K "lay_every_way" "lay_every_way" ad2 f fd)(B:Bl mg):m9 P w K mg base E2 1 f fd ["p","choices"] cn5:=by
 refine F.ok E5 (fun vs H Q E h=> ?_) (fun cdv A outer s H vs Q E hr h=> ?_)
 · obtain ⟨a,ch,p,cs,C6,rfl,ha,lp,hch,atc,keys,few,q⟩:=h;rfl
 · obtain ⟨a,ch,p,cs,C6,rfl,ha,lp,hch,atc,keys,few,q⟩:=h;have hu:=Q8 hr;have hu2:_+1+1 < cLine:=eg1 (er5 (by decide:2<=64) _) hr.units;refine ⟨_,@c8 _ _ _ _ _ (@i4 _ _ (2) _ _ _ _ E5.nd rfl (Or.inl rfl) (@o5 _ _ _ _ (@e8 _ _ _ (@ab0 _ _ _ _ _ B.list (@e8 _ _ _ (pv 0) (by rfl)) (by rfl) (by rfl)) (by rfl))) (by rfl) (by trivial)) (@c8 _ _ _ _ _ (@q0 _ _ _ _ _ _ _ _ PassesOwn.never rfl (@B8 _ _ _ _ (pv 1)) (@i9 _ _ (3) _ E5.nd rfl (Or.inl rfl) (by trivial)) (@c8 _ _ _ _ _ (@i4 _ _ (4) _ _ _ _ E5.nd rfl (Or.inl rfl) (@o5 _ _ _ _ (@j8 _)) (by rfl) (by trivial)) (@c8 _ _ _ _ _ (@q0 _ _ _ _ _ _ _ _ PassesOwn.never rfl (@B8 _ _ _ _ (pv 2)) (@i9 _ _ (5) _ E5.nd rfl (Or.inl rfl) (by trivial)) (@g6 _ _ _ (@q0 _ _ _ _ _ _ _ _ PassesOwn.never rfl (@B8 _ _ _ _ (pv 3)) (@i9 _ _ (6) _ E5.nd rfl (Or.inl rfl) (by trivial)) (@c8 _ _ _ _ _ (@i4 _ _ (7) _ _ _ _ E5.nd rfl (Or.inl rfl) (@ab0 _ _ _ _ _ B.list (@e8 _ _ _ (pv 5) (by rfl)) (by rfl) (by rfl)) (by rfl) (by trivial)) (@c8 _ _ _ _ _ (@q0 _ _ _ _ _ _ _ _ PassesOwn.never rfl (de1 (pv 6)) (@i9 _ _ (8) _ E5.nd rfl (Or.inl rfl) (by trivial)) (@g6 _ _ _ (@ak5 _ _ _ _ _ _ (@ap9 _ _ _ _ _ _ hu (pv 6) (pv 8) (fun _ _=>rfl)) (@ap6 _ _ _ _ _ _ _ (pv 7) (pv 8) ae3 (by intro _;rfl)) (by rfl) (by rfl) (by rfl))) (by intro _;rfl)) (@g6 _ _ _ (@w9 _ _ _ _ (@B0 _ _ _ _ _ _ _ (pv 4) (@e8 _ _ _ (pv 7) (by rfl)) (by rfl) (by rfl) (by rfl) (by rfl) (by rfl)) (by rfl))))) (by intro _;rfl))) (by intro _;rfl)) (@g6 _ _ _ (@i4 _ _ (2) _ _ _ _ E5.nd rfl (Or.inl rfl) (pv 4) (by rfl) (by trivial))))) (by intro _;rfl)) (@g6 _ _ _ (@j9 _ _ _ _ (cf9 hu2 B.sorted (@e8 _ _ _ (pv 2) (by rfl)))))),?_⟩
   try dsimp only[t6,Cx.nox,Cx.wish]
   refine ⟨_,rfl,a,_,rfl,.inl (g9.of ha),fun e0 he0=> ?_⟩;have s1:c6 H (c9 H e0 (.lst (p.map V.int))):=c6.upd_new he0;have h1e:(c9 H e0 (.lst (p.map V.int))) e0=some (.lst (p.map V.int)):=c7;generalize (c9 H e0 (.lst (p.map V.int)))=H1 at s1 h1e ⊢;refine ⟨(show 1<=sizeLine by decide),fun F0 hF0=> ?_⟩;have s2:c6 H1 (c9 H1 F0 (.lst [V.ref e0])):=c6.upd_new hF0;have h2F:(c9 H1 F0 (.lst [V.ref e0])) F0=some (.lst (([e0]:List Addr).map V.ref)):=c7;generalize (c9 H1 F0 (.lst [V.ref e0]))=H2 at s2 h2F ⊢;have s02:=s1.trans s2
   refine ⟨_,rfl,ch,rfl,⟨_,g9.of (s02 _ _ hch)⟩,G4 (K:=K) (a:=ch) (xs:=cs.map V.ref) (fun i σ H3=>∃(F:Addr) (ts:List Addr) (v3 v4 v5 v6 v7 v8:Option V),σ=[some (.ref a),some (.ref ch),some (.ref F),v3,v4,v5,v6,v7,v8]/\H3 F=some (.lst (ts.map V.ref))/\x5 H3 ts (ad6 p (C6.take i))/\ts.Nodup/\(∀t∈ts,H t=none)/\Kp H H3)
     ⟨F0,[e0],none,none,none,none,none,none,rfl,h2F,⟨rfl,fun j b r e1 e2=>by
       rcases j with _|j
       · cases e1;cases e2;exact s2 _ _ h1e
       · cases e1⟩,by simp,fun t ht=>by rw[ee3.mp ht];exact he0,Kp.of s02⟩ (fun i σ H3 _ zz=>by obtain ⟨_,_,_,_,_,_,_,_,_,_,_,_,_,k⟩:=zz;exact g9.of (k.lst hch)) ?_ ?_⟩
   · rintro i y σ H3 hi ⟨F,ts,v3,v4,v5,v6,v7,v8,rfl,h3F,rows,tnd,tfr,k3⟩
     obtain ⟨c,hc,rfl⟩:∃c,cs[i]? =some c/\y=V.ref c:=by
       rw[ed9] at hi
       cases e:cs[i]? with
       |none=>rw[e] at hi;cases hi
       |some a=>rw[e] at hi;exact ⟨a,rfl,(Option.some.inj hi).symm⟩
     obtain ⟨ways,hw,us,hcu,atu⟩:=atc.get hc;have fewi:=few (i+1);rw[m7 hw,bl7] at fewi ⊢;have lens:=bt6 p (C6.take i);generalize ad6 p (C6.take i)=laid at rows fewi lens ⊢;have kw:=keys ways (ee1 hw);refine ⟨ef5 _,fun W hW=> ?_⟩;have hW0:H W=none:=k3.fr W hW;have s4:c6 H3 (c9 H3 W (.lst [])):=c6.upd_new hW;have h4W:(c9 H3 W (.lst [])) W=some (.lst (([]:List Addr).map V.ref)):=c7;generalize (c9 H3 W (.lst []))=H4 at s4 h4W ⊢
     refine ⟨_,rfl,F,rfl,⟨_,g9.of (s4 _ _ h3F)⟩,G4 (K:=K) (a:=F) (xs:=ts.map V.ref) (fun j σ H5=>∃(bs:List Addr) (v5 v6 v7 v8:Option V),σ=[some (.ref a),some (.ref ch),some (.ref F),some (.ref c),some (.ref W),v5,v6,v7,v8]/\H5 W=some (.lst (bs.map V.ref))/\x5 H5 bs (aa6 (laid.take j) ways)/\bs.Nodup/\(∀b∈bs,H3 b=none)/\W∉bs/\Kp H3 H5)
       ⟨[],v5,v6,v7,v8,rfl,h4W,⟨rfl,fun j b r h=>by cases h⟩,ej6,(fun b hb=>by cases hb),(fun z=>by cases z),Kp.of s4⟩ (fun j σ H5 _ zz=>by obtain ⟨_,_,_,_,_,_,_,_,_,_,_,k⟩:=zz;exact g9.of (k.lst h3F)) ?_ ?_⟩
     · rintro j y σ H5 hj ⟨bs0,v5,v6,v7,v8,rfl,h5W,rowsB0,bnd0,bfr0,Wb0,k5⟩
       obtain ⟨t,ht,rfl⟩:∃t,ts[j]? =some t/\y=V.ref t:=by
         rw[ed9] at hj
         cases e:ts[j]? with
         |none=>rw[e] at hj;cases hj
         |some a=>rw[e] at hj;exact ⟨a,rfl,(Option.some.inj hj).symm⟩
       obtain ⟨row,hrow⟩:∃r,laid[j]? =some r:=⟨_,ed4 (by rw[<-rows.1];exact (ed3.mp ht).1)⟩;have h3t:=rows.2 j t row ht hrow;have lrow:=lens row (ee1 hrow);have tot:=bp8 (f:=fun t=>ways.map (K1 t)) hrow;rw[ed2] at tot;have h5c:=(k3.trans k5).lst hcu
       refine ⟨_,rfl,c,rfl,⟨_,g9.of h5c⟩,G4 (K:=K) (a:=c) (xs:=us.map V.ref) (fun k σ H6=>∃(bs:List Addr) (v6 v7 v8:Option V),σ=[some (.ref a),some (.ref ch),some (.ref F),some (.ref c),some (.ref W),some (.ref t),v6,v7,v8]/\H6 W=some (.lst (bs.map V.ref))/\x5 H6 bs (aa6 (laid.take j) ways++(ways.take k).map (K1 row))/\bs.Nodup/\(∀b∈bs,H3 b=none)/\W∉bs/\Kp H3 H6)
         ⟨bs0,v6,v7,v8,rfl,h5W,by rw[eo8,ep4,eg0];exact rowsB0,bnd0,bfr0,Wb0,k5⟩ (fun k σ H6 _ zz=>by obtain ⟨_,_,_,_,_,_,_,_,_,_,kk⟩:=zz;exact g9.of ((k3.trans kk).lst hcu)) ?_ ?_⟩
       · rintro k y σ H6 hk ⟨bs,v6,v7,v8,rfl,h6W,rowsB,bnd,bfr,Wb,k6⟩
         obtain ⟨u,hu,rfl⟩:∃t,us[k]? =some t/\y=V.ref t:=by
           rw[ed9] at hk
           cases e:us[k]? with
           |none=>rw[e] at hk;cases hk
           |some a=>rw[e] at hk;exact ⟨a,rfl,(Option.some.inj hk).symm⟩
         obtain ⟨es,hes,tu⟩:=atu.get hu;obtain ⟨knd,kbd⟩:=kw es (ee1 hes);refine ⟨_,rfl,t,_,rfl,.inl (g9.of (k6.lst h3t)),fun to hto=> ?_⟩;have s7:c6 H6 (c9 H6 to (.lst (row.map V.int))):=c6.upd_new hto;have h7t:(c9 H6 to (.lst (row.map V.int))) to=some (.lst (row.map V.int)):=c7;generalize (c9 H6 to (.lst (row.map V.int)))=H7 at s7 h7t ⊢;have k67:Kp H6 H7:=Kp.of s7;have tu7:ax0 H7 u es:=k67.tab u es (k6.tab u es (k3.tab u es tu));refine ⟨_,rfl,u,U3 es,rfl,?_⟩;refine tu7.elim (fun h=> .inl ⟨h,fun o=> ?_⟩) (fun ⟨o,h⟩=> .inr ⟨o,h,?_⟩)
         all_goals
           first
             |(have h8u:(c9 H7 u (.frz o (.dK (U3 es)))) u=some (.frz o (.dK (U3 es))):=c7
               have k68:=k67.trans (Kp.freeze (o:=o) h);have h8t:=(Kp.freeze (o:=o) h).lst h7t
               generalize (c9 H7 u (.frz o (.dK (U3 es))))=H8 at h8u k68 h8t ⊢)
             |(have h8u:=h
               have k68:=k67;have h8t:=h7t
               generalize H7=H8 at h8u k68 h8t ⊢)
           have nut:u≠to:=fun z=>by rw[z,h8t] at h8u;cases h8u
           refine au1 (fun q σ H9=>∃(v8:Option V),σ=[some (.ref a),some (.ref ch),some (.ref F),some (.ref c),some (.ref W),some (.ref t),some (.ref u),some (.ref to),v8]/\H9 to=some (.lst ((K1 row (es.take q)).map V.int))/\H9 u=some (.frz o (.dK (U3 es)))/\Kp H6 H9)
             ⟨v8,rfl,h8t,h8u,k68⟩ (fun q σ H9 _ ⟨_,_,_,e,_⟩=>e) ?_ ?_
           · rintro q kk vv σ H9 hq ⟨v8,rfl,h9t,h9u,k9⟩;unfold U3 at hq;rw[ed9] at hq
             cases hE:es[q]? with
             |none=>rw[hE] at hq;cases hq
             |some e=>
              rw[hE] at hq;cases hq;have eb:=kbd e (ee1 hE);refine ⟨_,rfl,_,rfl,u,.int e.2,rfl,.inl ⟨U3 es,Sum.inl e.1,.inr ⟨o,h9u⟩,rfl,(ck2 knd hE).symm⟩,?_⟩;refine ⟨_,rfl,_,rfl,to,_,_,e.1.toNat,rfl,rfl,h9t,?_,?_⟩
              · unfold ixN;rw[ed2,bl6,if_pos eb.1,if_pos (by omega)]
              · refine ⟨_,rfl,?_,by rw[g8 nut];exact h9u,k9.upd_r hto⟩;rw[c7,m7 hE,cg3,es6]
           · rintro σ H9 ⟨v8,rfl,h9t,h9u,k9⟩;rw[show (U3 es).length=es.length by unfold U3;rw[ed2],eg4] at h9t;have h9W:=k9.lst h6W
             have lb:bs.length<=2000:=by
               have:=rowsB.1;rw[ed6,ed2,ee9] at this;unfold aa6 at this fewi;omega
             refine ⟨_,rfl,.inl ⟨rfl,_,g9.of h9W⟩,_,rfl,W,_,_,rfl,rfl,h9W,eg1 (show _<=2000 by rw[ed2];omega) (by decide),?_⟩;have nWt:W≠to:=g7 h6W hto;have k9':Kp H3 (c9 H9 W (.lst (bs.map V.ref++[V.ref to]))):=(k6.trans k9).upd_r hW
             have r9:x5 (c9 H9 W (.lst (bs.map V.ref++[V.ref to]))) (bs++[to]) ((aa6 (laid.take j) ways++(ways.take k).map (K1 row))++[K1 row es]):=by
               refine ab7 (J2 (k9.rows rowsB) fun b hb v e=> ?_) (by rw[g8 nWt.symm];exact h9t);rw[g8 (show b≠W from fun z=>Wb (z▸hb))];exact e
             refine ⟨bs++[to],_,_,_,rfl,by rw[c7,ed8];rfl,?_,?_,fun b hb=> ?_,fun z=> ?_,k9'⟩
             · have eb:(ways.take (k+1)).map (K1 row)=(ways.take k).map (K1 row)++[K1 row es]:=by rw[m7 hes,ed8];rfl
               rw[eb,<-ef2];exact r9
             · rw[ek7];refine ⟨bnd,by simp,fun x hx z hz e=> ?_⟩;rw[ee3.mp hz] at e;obtain ⟨r,hr⟩:=af6 rowsB hx;rw[e,hto] at hr;cases hr
             · rcases ee2.mp hb with z|z
               · exact bfr b z
               · rw[ee3.mp z];exact k6.fr to hto
             · rcases ee2.mp z with z|z
               · exact Wb z
               · exact nWt (ee3.mp z)
       · rintro σ H6 ⟨bs,v6,v7,v8,rfl,h6W,rowsB,bnd,bfr,Wb,k6⟩;refine ⟨bs,_,v6,v7,v8,rfl,h6W,?_,bnd,bfr,Wb,k6⟩;rw[ed2,atu.1,eg4] at rowsB
         have e:aa6 (laid.take (j+1)) ways=aa6 (laid.take j) ways++ways.map (K1 row):=by
           unfold aa6;rw[m7 hrow,en1,ek3,ep3,eg0]
         rw[e];exact rowsB
     · rintro σ H5 ⟨bs,v5,v6,v7,v8,rfl,h5W,rowsB,bnd,bfr,Wb,k5⟩;rw[ed2,rows.1,eg4] at rowsB;exact ⟨_,rfl,W,bs,_,_,_,_,_,_,rfl,h5W,rowsB,bnd,fun b hb=>k3.fr b (bfr b hb),k3.trans k5⟩
   · rintro σ H3 ⟨F,ts,v3,v4,v5,v6,v7,v8,rfl,h3F,rows,tnd,tfr,k3⟩;rw[ed2,atc.1,eg4] at rows;refine ⟨_,rfl,F,ts,_,rfl,g9.of h3F,rows,fun bs rs o pb pr rowsB srt ho=> ?_⟩;have s4:c6 H3 (c9 H3 o (.lst (bs.map V.ref))):=c6.upd_new ho;refine q o bs rs _ (k3.fr o ho) c7 (J2 rowsB fun b _ u e=>s4 _ _ e) pr srt (pb.nodup_iff.mpr tnd) (fun b hb=>tfr b (pb.mem_iff.mp hb)) (fun z=> ?_) (k3.trans (Kp.of s4));obtain ⟨r,hr⟩:=af6 rowsB z;rw[ho] at hr;cases hr
end
end My
namespace My
open PySem L2 Mth
section
theorem bt7 {β:Type}(g:Nat->List β):∀ds:List Nat,(ds.flatMap g).length=N3 ds fun d=>(g d).length
 |[]=>rfl
 |d::ds=>by rw[ek3,ed6,bt7 g ds,N4]
theorem bp9 {f:Nat->Nat}:∀{ds:List Nat} {d:Nat},d∈ds->f d<=N3 ds f
 |x::ds,d,h=>by
  rw[N4]
  rcases ee8.mp h with rfl|h
  · omega
  · have:=bp9 (f:=f) h;omega
theorem bt8 {f:Nat->Nat}:∀{ds:List Nat},N3 ds f≠0->∃d∈ds,f d≠0
 |[],h=>absurd rfl h
 |x::ds,h=>by
  rw[N4] at h
  by_cases c:f x=0
  · obtain ⟨d,hd,e⟩:=bt8 (f:=f) (ds:=ds) (by omega);exact ⟨d,ee0 _ hd,e⟩
  · exact ⟨x,ed7,c⟩
theorem ap3 {n l:Nat}(l1:1<=l):∀k,k < n->1<=t5 n l k
 |0,_=>ed5 _
 |k+1,h=>by
  show 1<=t5 n l k*(n - (k+1))*l;exact ek8 (ek8 (ap3 l1 k (by omega)) (by omega)) l1
theorem ba1 {n l:Nat}(l1:1<=l)(k:Nat):∀j,k+j < n->t5 n l k<=t5 n l (k+j)
 |0,_=>ed5 _
 |j+1,h=>by
  refine ee6 (ba1 l1 k j (by omega)) ?_;show t5 n l (k+j)<=t5 n l (k+j)*(n - (k+j+1))*l;rw[ek9];exact ej0 _ (ek8 (by omega) l1)
theorem bh3 {l:Nat}{ds:List Nat}(hd:∀d∈ds,1<=d):∀(f:Nat) {rs:List (List Int)},rs.length<=f->(∀r∈rs,r.length=l)->(J6 ds f rs).length=jf l ds rs.length
 |0,rs,hf,_=>by rw[show rs.length=0 by omega];rfl
 |f+1,rs,hf,hl=>by
  show (if rs.length=0 then [[]] else ds.flatMap (aa1 (J6 ds f) rs)).length=_
  by_cases c:rs.length=0
  · rw[if_pos c,c];rfl
  · rw[if_neg c,bt7,(aw7 (l:=l) hd).2 rs.length (by omega)]
    refine Y8 fun d hdm=> ?_
    have d1:=hd d hdm;unfold aa1
    by_cases c2:d<=rs.length
    · rw[if_pos c2,if_pos c2,an1 (c:=jf l ds (rs.length - d)) fun x hx=> ?_,aw9 hl (d - 1) (by omega)];have o:=Y0 hl (d - 1) (by omega) hx;rw[ed2,bh3 hd f (by have:=o.left;omega) fun r hr=>hl r (o.rows2 r hr)]
      congr 1
      have:=o.left;omega
    · rw[if_neg c2,if_neg c2];rfl
structure cn6 (ds:List Nat)(N d0:Nat):Prop where
 pos:1<=d0
 one:∀d∈ds,1<=d
 all:∀d∈ds,d0∣d
 in_:d0<=N->d0∈ds
theorem cy1 {l N d0:Nat}{ds:List Nat}(b:cn6 ds N d0)(l1:1<=l):∀q,d0*q<=N->1<=jf l ds (d0*q)
 |0,_=>ed5 _
 |q+1,h=>by
  have p:=b.pos;have e:d0*(q+1)=d0*q+d0:=Nat.mul_succ _ _;rw[(aw7 (l:=l) b.one).2 (d0*(q+1)) (by omega)];refine ee6 ?_ (bp9 (b.in_ (by omega)));rw[if_pos (by omega),show d0*(q+1) - d0=d0*q by omega];exact ek8 (ap3 l1 _ (by omega)) (cy1 b l1 q (by omega))
theorem cy2 {l N d0:Nat}{ds:List Nat}(b:cn6 ds N d0):∀(g n:Nat),n<=g->jf l ds n≠0->d0∣n
 |0,n,h,_=>by rw[show n=0 by omega];exact Nat.dvd_zero _
 |g+1,n,h,z=>by
  by_cases c:n=0
  · rw[c];exact Nat.dvd_zero _
  · rw[(aw7 (l:=l) b.one).2 n (by omega)] at z;obtain ⟨d,hd,e⟩:=bt8 z;have d1:=b.one d hd
    by_cases c2:d<=n
    · rw[if_pos c2] at e;have:=cy2 b g (n - d) (by omega) (fun y=>e (by rw[y,em3]));have e2:=Nat.dvd_add this (b.all d hd);rw[eu9 c2] at e2;exact e2
    · rw[if_neg c2] at e;exact absurd rfl e
theorem cy3 {l N d0:Nat}{ds:List Nat}(b:cn6 ds N d0)(l1:1<=l):∀(f:Nat) {rs:List (List Int)},rs.length<=f->rs.length<=N->(∀r∈rs,r.length=l)->d0∣rs.length->jf l ds rs.length<=2000->Few ds f rs
 |0,rs,_,_,_,_,_=>trivial
 |f+1,rs,hf,hN,hl,dv,le=>by
  refine ⟨fun d hd hdn=> ?_,by rw[bh3 b.one (f+1) hf hl];exact le⟩;have d1:=b.one d hd;obtain ⟨q,hq⟩:=Nat.dvd_sub dv (b.all d hd)
  have jp:1<=jf l ds (rs.length - d):=by rw[hq];exact cy1 b l1 q (by omega)
  have t1:t5 rs.length l (d - 1)*jf l ds (rs.length - d)<=jf l ds rs.length:=by
    rw[(aw7 (l:=l) b.one).2 rs.length (by omega)];have:=bp9 (f:=fun d=>if d<=rs.length then t5 rs.length l (d - 1)*jf l ds (rs.length - d) else 0) hd;rw[if_pos hdn] at this;exact this
  have t2:t5 rs.length l (d - 1)<=jf l ds rs.length:=ee6 (ej0 _ jp) t1;have t3:jf l ds (rs.length - d)<=jf l ds rs.length:=ee6 (eq5 _ (ap3 l1 (d - 1) (by omega))) t1;refine ⟨fun k hk=> ?_,fun x hx=> ?_⟩
  · rw[aw9 hl k (by omega)];have:=ba1 l1 k (d - 1 - k) (n:=rs.length) (by omega);rw[show k+(d - 1 - k)=d - 1 by omega] at this;omega
  · have o:=Y0 hl (d - 1) (by omega) hx
    have e:x.2.length=rs.length - d:=by have:=o.left;omega
    exact cy3 b l1 f (by omega) (by omega) (fun r hr=>hl r (o.rows2 r hr)) (by rw[e];exact Nat.dvd_sub dv (b.all d hd)) (by rw[e];omega)
end
end My
namespace My
open PySem L2 Mth
section
variable {P:Program} {w:World} {K:PySem.W.Frag} {mg:Str->Option Value} {base:Heap}
theorem dg7 {l m:Nat}(hm:0 < m):∀(n d:Nat),ao7 l m d->m - d<=n->∃d,by6 l m d
 |0,d,u,h=>by
  by_cases z:eh9 l (m/d)=1
  · exact ⟨d,u.done z⟩
  · have:=u.more hm z;omega
 |n+1,d,u,h=>by
  by_cases z:eh9 l (m/d)=1
  · exact ⟨d,u.done z⟩
  · have:=u.more hm z;exact dg7 hm n _ (u.step hm) (by omega)
theorem dm8 {l m:Nat}(hm:0 < m):∃d,by6 l m d:=dg7 hm (m - 1) 1 (.start l m) (ed5 _)
theorem ad7 {l m n d:Nat}(h:d∈B9 l m n):W0 l m d:=by
 refine ⟨(K8 h).1,?_⟩;unfold B9 at h;exact of_decide_eq_true (en8.mp h).2
theorem bc7 {l m n:Nat}(m1:1<=m):∃d0,cn6 (B9 l m n) n d0:=by
 obtain ⟨d0,h⟩:=dm8 (l:=l) m1;have p:=h.pos m1;refine ⟨d0,p,fun d hd=>(K8 hd).1,fun d hd=> ?_,fun hn=> ?_⟩
 · have r:=ad7 hd;obtain ⟨a,b⟩:=(bs1 r.1).mp r.2;exact h.least d a b
 · unfold B9;refine en8.mpr ⟨ee5.mpr ⟨d0 - 1,ei2.mpr (by omega),by omega⟩,decide_eq_true ((bs1 p).mpr ⟨h.parts,h.rest⟩)⟩
theorem cd4 {l m:Nat}(l0:0 < l)(m1:1<=m):∀(w:List (List (List Int))),(∀c∈w,W0 l m c.length)->(w.map er2).flatten.Nodup->((esW l m w).map (·.1)).Nodup
 |[],_,_=>ej6
 |c::w,h,nd=>by
  rw[eh0,eh4,ek7] at nd;have i:=cd4 l0 m1 w (fun c hc=>h c (ee0 _ hc)) nd.2.1
  have e:esW l m (c::w)=O3 (P7 l m c)++esW l m w:=by unfold esW;rw[ek3]
  rw[e,ed8,bl3,ek7];refine ⟨?_,i,fun x hx y hy z=> ?_⟩
  · unfold P7
    by_cases ex:∃J,M4 l (m/c.length) c J
    · rw[dif_pos ex];obtain ⟨k,e1,e2⟩:=(h c ed7).parts m1
      have ek:m/c.length=k:=by rw[e1];exact eo1 k (h c ed7).1
      exact ((Classical.choose_spec ex).perm l0 (by rw[ek];exact e2)).nodup_iff.mpr nd.1
    · rw[dif_neg ex];exact ej6
  · exact nd.2.2 x ((bt5 l0 m1 (h c ed7)).1 x hx) y ((an3 l0 m1 w fun c hc=>h c (ee0 _ hc)).1 y hy) z
noncomputable def chF (rs:List (List Int))(m l:Nat):List (List (Int×Int)):=(J6 (B9 l m (w6 rs l)) 40 (O4 rs l)).map (esW l m)
theorem V6 {rs:List (List Int)}{l:Nat}{r:List Int}(h:r∈O4 rs l):r∈rs/\r.length=l:=by
 unfold O4 at h;obtain ⟨a,b⟩:=en8.mp h;exact ⟨a,of_decide_eq_true b⟩
theorem ba3 (f:List Int->Bool):∀rs:List (List Int),((rs.filter f).flatten).Sublist rs.flatten
 |[]=>List.Sublist.refl _
 |r::rs=>by
  by_cases c:f r=true
  · rw[eo2 c,eh4,eh4];exact (ba3 f rs).append_left r
  · rw[eo3 c,eh4];exact (ba3 f rs).trans (List.sublist_append_right _ _)
theorem ag2 (rs:List (List Int))(l:Nat):(O4 rs l).flatten.Sublist rs.flatten:=ba3 _ rs
theorem rsb {p:List Int}(tp:E6 p){i:Nat}{rs:List (List Int)}(up:J5 p i rs):∀r∈rs,1<=r.length/\r.length<=p.length:=fun r hr=>by
 obtain ⟨y,L,hy,pr,er,_⟩:=up.ring r hr
 have b:=O1 tp hy (m:=L) fun i i0 i1=>pr.least i i0 i1
 have:=pr.pos;rw[er,x6];omega
theorem dm9 {rs:List (List Int)}{m l:Nat}(h:(O4 rs l).length<=40):(chF rs m l).length=C9 l m (w6 rs l):=by
 unfold chF;rw[ed2,bh3 (l:=l) (fun d hd=>(K8 hd).1) 40 h fun r hr=>(V6 hr).2,bm7];rfl
theorem de3 (laid:List (List Int))(c:List (List (Int×Int))):(aa6 laid c).length=laid.length*c.length:=by
 unfold aa6
 exact an1 fun t _=>by rw[ed2]
theorem ba4 (p:List Int)(f:Nat->List (List (Int×Int)))(g:Nat->Nat):∀n (ks:List Nat),ks.length<=n->(∀k∈ks,(f k).length=g k)->(ad6 p (ks.map f)).length=x8 g ks
 |0,ks,h,_=>by
  obtain rfl:ks=[]:=em4.mp (by omega);rfl
 |n+1,ks,h,hf=>by
  by_cases c:ks=[]
  · rw[c];rfl
  · have e:=(eu4 c).symm;have hx:ks.getLast c∈ks:=List.getLast_mem c;generalize ks.getLast c=x at e hx
    have hd:∀k∈ks.dropLast,k∈ks:=fun k hk=>by rw[e];exact eh8 _ hk
    have hl:ks.dropLast.length<=n:=by rw[et6];omega
    generalize ks.dropLast=ks' at e hd hl;rw[e,ed8,show [x].map f=[f x] from rfl,bl7,de3,au2,ba4 p f g n ks' hl (fun k hk=>hf k (hd k hk)),hf x hx]
theorem cd5 {g:Nat->Nat}:∀{ks:List Nat},x8 g ks≠0->∀k∈ks,1<=g k
 |x::ks,h,k,hk=>by
  have h:g x*x8 g ks≠0:=h
  have a:g x≠0:=fun z=>h (by rw[z,ei3])
  have b:x8 g ks≠0:=fun z=>h (by rw[z,em3])
  rcases ee8.mp hk with rfl|hk
  · omega
  · exact cd5 b k hk
theorem bh4 {g:Nat->Nat}:∀{ks:List Nat},(∀k∈ks,1<=g k)->1<=x8 g ks
 |[],_=>ed5 _
 |x::ks,h=>ek8 (h x ed7) (bh4 fun k hk=>h k (ee0 _ hk))
theorem dn0 {g:Nat->Nat}{ks:List Nat}(h:∀k∈ks,1<=g k){k:Nat}(hk:k∈ks):g k<=x8 g ks:=by
 induction ks with
 |nil=>cases hk
 |cons x ks ih=>
  show g k<=g x*x8 g ks
  rcases ee8.mp hk with rfl|hk
  · exact ej0 _ (bh4 fun k hk=>h k (ee0 _ hk))
  · exact ee6 (ih (fun k hk=>h k (ee0 _ hk)) hk) (eq5 _ (h x ed7))
theorem cy4 {g:Nat->Nat}{ks:List Nat}(h:∀k∈ks,1<=g k)(i:Nat):x8 g (ks.take i)<=x8 g ks:=by
 have e:=az0 g (ks.take i) (ks.drop i);rw[ei8] at e;rw[e];exact ej0 _ (bh4 fun k hk=>h k (en7 hk))
def ba5:Sp:=fun vs H Q _=>∃n:Int,vs=[.int n]/\n<=2000/\Q .non H
theorem ar5:n5 ["many"] ["many"] (i8 Z9):=by rfl'
theorem ar6 {f:Addr}{fd:FuncData}(F:B6 K "must_be_few" "must_be_few" Z9 f fd)(zr:∃t,mg "MOST_TOLD"=some (.int 2000 t)):m9 P w K mg base E2 1 f fd ["many"] ba5:=by
 refine F.ok ar5 (fun vs H Q E h=> ?_) (fun cdv A outer s H vs Q E hr h=> ?_)
 · obtain ⟨n,rfl,hn,q⟩:=h;rfl
 · obtain ⟨n,rfl,hn,q⟩:=h;obtain ⟨_,zhy⟩:=zr;refine ⟨_,@g6 _ _ _ (@y8 _ _ _ _ _ _ _ _ (@j6 _ _ _ _ _ _ _ _ an5 (pv 0) (@N6 _ _ (.int 2000) _ _ (by rfl) zhy ⟨_,rfl⟩ (by decide)) (j7 _)) (@g6 _ _ _ (@ar9 _ _)) (@o7 _)),?_⟩
   try dsimp only[t6,Cx.nox,Cx.wish]
   refine ⟨_,rfl,_,_,rfl,rfl,_,rfl,?_⟩;rw[decide_eq_false (show ¬(2000:Int) < n by omega)];exact y7 q
structure de4 (p:List Int)(m:Nat)(ts:List (List Int)):Prop where
 len:ts.length=K5 p m
 srt:ts.Pairwise (fun r r'=>HT.bb3 r' r=false)
 src:K5 p m=0\/∃ks:List Nat,ks.Nodup/\(∀k∈ks,∃r∈C5 p p.length,r.length=k)/\(∀r∈C5 p p.length,r.length∈ks)/\ts.Perm (ad6 p (ks.map (chF (C5 p p.length) m)))
def cn7 (H:Hp)(c:Addr)(ways:List (List (Int×Int))):Prop:=∃us,H c=some (.lst (us.map V.ref))/\M6 (ax0 H) us ways
theorem cn7.keep {H H':Hp}{c:Addr}{ways:List (List (Int×Int))}(h:cn7 H c ways)(s:c6 H H'):cn7 H' c ways:=by
 obtain ⟨us,a,b⟩:=h;exact ⟨us,s _ _ a,b.imp fun u es _ e=>(Kp.of s).tab u es e⟩
def ar7:Sp:=fun vs H Q _=>∃(a:Addr) (p:List Int) (m:Nat),vs=[.ref a,.int (m:Int)]/\x9 H a p/\1<=m/\K5 p m<=2000/\∀(o:Addr) (bs:List Addr) (ts:List (List Int)) (H':Hp),H o=none->H' o=some (.lst (bs.map V.ref))->x5 H' bs ts->de4 p m ts->bs.Nodup->(∀b∈bs,H b=none)->o∉bs->Kp H H'->Q (.ref o) H'
theorem N5:n5 ["p","m","many","by_length","choices","length","rings"] ["p","m"] (i8 ag9):=by rfl'
theorem ba6 {f:Addr}{fd:FuncData}(F:B6 K "all_roots" "all_roots" ag9 f fd)(B:Bl mg)(zux:o4 P w K mg base "how_many_roots" 4 ["p","m"] ah9)(zsy:o4 P w K mg base "must_be_few" 1 ["many"] ba5)(zvz:o4 P w K mg base "sort_by_length" 1 ["rings"] bc3)(zt:o4 P w K mg base "walk_rings" 2 ["p"] ab6)(zsz:o4 P w K mg base "ways_to_join" 43 ["rings","right","m"] (ar4 40))(zuz:o4 P w K mg base "right_numbers" 2 ["length","m","most"] aw0)(zpz:o4 P w K mg base "lay_every_way" 1 ["p","choices"] cn5):m9 P w K mg base E2 44 f fd ["p","m"] ar7:=by
 refine F.ok N5 (fun vs H Q E h=> ?_) (fun cdv A outer s H vs Q E hr h=> ?_)
 · obtain ⟨a,p,m,rfl,⟨ha,tp,lp⟩,m1,few,q⟩:=h;rfl
 · obtain ⟨a,p,m,rfl,⟨ha,tp,lp⟩,m1,few,q⟩:=h;have zoz:l6 4 _:=hr.mono (by decide);have zkz:l6 1 _:=hr.mono (by decide);have zo:l6 1 _:=hr.mono (by decide);have zjz:l6 2 _:=hr.mono (by decide);have zl:l6 43 _:=hr.mono (by decide);have zmy:l6 2 _:=hr.mono (by decide);have zdy:l6 1 _:=hr.mono (by decide);have hu:=Q8 hr;refine ⟨_,@c8 _ _ _ _ _ (@i4 _ _ (2) _ _ _ _ N5.nd rfl (Or.inl rfl) (@i7 _ _ _ _ _ _ _ _ _ _ zux zoz (@e7 _ _ _ _ _ (pv 0) (@e8 _ _ _ (pv 1) (by rfl)) (by rfl)) (by rfl) (by decide) (by rfl) (by rfl)) (by rfl) (by trivial)) (@c8 _ _ _ _ _ (@w9 _ _ _ _ (@i7 _ _ _ _ _ _ _ _ _ _ zsy zkz (@e8 _ _ _ (pv 2) (by rfl)) (by rfl) (by decide) (by rfl) (by rfl)) (by rfl)) (@c8 _ _ _ _ _ (@y8 _ _ _ _ _ _ _ _ (@j6 _ _ _ _ _ _ _ _ ac3 (pv 2) (@h8 _ _ _ _) (j7 _)) (@g6 _ _ _ (@j9 _ _ _ _ (@o5 _ _ _ _ (@j8 _)))) (@o7 _)) (@c8 _ _ _ _ _ (@i4 _ _ (3) _ _ _ _ N5.nd rfl (Or.inl rfl) (@i7 _ _ _ _ _ _ _ _ _ _ zvz zo (@e8 _ _ _ (@i7 _ _ _ _ _ _ _ _ _ _ zt zjz (@e8 _ _ _ (pv 0) (by rfl)) (by rfl) (by decide) (by rfl) (by rfl)) (by rfl)) (by rfl) (by decide) (by rfl) (by rfl)) (by rfl) (by trivial)) (@c8 _ _ _ _ _ (@i4 _ _ (4) _ _ _ _ N5.nd rfl (Or.inl rfl) (@o5 _ _ _ _ (@j8 _)) (by rfl) (by trivial)) (@c8 _ _ _ _ _ (@q0 _ _ _ _ _ _ _ _ PassesOwn.never rfl (@bm5 _ _ _ _ (pv 3)) (@i9 _ _ (5) _ N5.nd rfl (Or.inl rfl) (by trivial)) (@c8 _ _ _ _ _ (@i4 _ _ (6) _ _ _ _ N5.nd rfl (Or.inl rfl) (@ap9 _ _ _ _ _ _ hu (pv 3) (pv 5) (fun _ _=>rfl)) (by rfl) (by trivial)) (@g6 _ _ _ (@w9 _ _ _ _ (@B0 _ _ _ _ _ _ _ (pv 4) (@e8 _ _ _ (@i7 _ _ _ _ _ _ _ _ _ _ zsz zl (@e7 _ _ _ _ _ (pv 6) (@e7 _ _ _ _ _ (@i7 _ _ _ _ _ _ _ _ _ _ zuz zmy (@e7 _ _ _ _ _ (pv 5) (@e7 _ _ _ _ _ (pv 1) (@e8 _ _ _ (@o8 _ _ _ _ _ B.len (@e8 _ _ _ (pv 6) (by rfl)) (by rfl) (by rfl)) (by rfl)) (by rfl)) (by rfl)) (by rfl) (by decide) (by rfl) (by rfl)) (@e8 _ _ _ (pv 1) (by rfl)) (by rfl)) (by rfl)) (by rfl) (by decide) (by rfl) (by rfl)) (by rfl)) (by rfl) (by rfl) (by rfl) (by rfl) (by rfl)) (by rfl)))) (by intro _;rfl)) (@g6 _ _ _ (@j9 _ _ _ _ (@i7 _ _ _ _ _ _ _ _ _ _ zpz zdy (@e7 _ _ _ _ _ (pv 0) (@e8 _ _ _ (pv 4) (by rfl)) (by rfl)) (by rfl) (by decide) (by rfl) (by rfl))))))))),?_⟩;refine dg4 ?_;intros
   try dsimp only[t6,Cx.nox,Cx.wish]
   refine ⟨_,rfl,_,rfl,a,p,m,rfl,⟨ha,tp,lp⟩,m1,fun H1 s1=> ?_⟩;refine ⟨_,rfl,_,rfl,by omega,?_⟩;refine ⟨_,rfl,rfl,_,rfl,?_⟩
   by_cases z0:K5 p m=0
   · rw[decide_eq_true (by rw[z0];rfl)];refine J8 ⟨ef5 _,fun o ho=> ?_⟩;exact q o [] [] _ (s1.free ho) c7 ⟨rfl,fun j b r h=>by cases h⟩ ⟨by rw[z0];rfl,List.Pairwise.nil,.inl z0⟩ ej6 (fun b hb=>by cases hb) (fun z=>by cases z) (Kp.of (s1.trans (c6.upd_new ho)))
   rw[decide_eq_false (fun z=>z0 (by have:=V.int.inj z;omega))];refine y7 ?_;refine ⟨_,rfl,a,p,rfl,⟨s1 a _ ha,tp,lp⟩,fun l as rs H2 hl s12 h2l rows up fa nda nla=> ?_⟩;have cl:=af7 up;have fl:=am3 tp up;have ers:rs=C5 p p.length:=up.eq;refine ⟨l,as,rs,rfl,h2l,rows,by omega,fun d es H3 hd s23 h3d bl les fre=> ?_⟩;refine ⟨ef5 _,fun C hC=> ?_⟩;have s4:c6 H3 (c9 H3 C (.lst [])):=c6.upd_new hC;have h4C:(c9 H3 C (.lst [])) C=some (.lst (([]:List Addr).map V.ref)):=c7;generalize (c9 H3 C (.lst []))=H4 at s4 h4C ⊢;have hC2:H2 C=none:=s23.free hC;have ndC:d≠C:=g7 h3d hC;refine ⟨_,rfl,d,C2 es,rfl,s4 _ _ h3d,fun o=> ?_⟩;have sB:c6 H2 (c9 H4 d (.frz o (.dK (C2 es)))):=(s23.trans s4).upd_r hd;have hBd:(c9 H4 d (.frz o (.dK (C2 es)))) d=some (.frz o (.dK (C2 es))):=c7
   have kpB:∀c,c≠d->(c9 H4 d (.frz o (.dK (C2 es)))) c=H4 c:=fun c hc=>g8 hc
   have hBC:(c9 H4 d (.frz o (.dK (C2 es)))) C=some (.lst (([]:List Addr).map V.ref)):=by rw[g8 ndC.symm];exact h4C
   generalize (c9 H4 d (.frz o (.dK (C2 es))))=HB at sB hBd kpB hBC ⊢
   have lkv:(C2 es).length=es.length:=by unfold C2;rw[ed2]
   have hprod:x8 (fun l=>C9 l m (w6 rs l)) (es.map (·.1))=K5 p m:=by
     rw[az6 tp up bl.nk bl.key bl.all (f:=fun l=>C9 l m (w6 rs l)) fun u hu=>by show C9 u m (w6 rs u)=1;rw[hu];rfl,ers];rfl
   have pos:=cd5 (g:=fun l=>C9 l m (w6 rs l)) (ks:=es.map (·.1)) (by rw[hprod];exact z0)
   have fl40:∀k∈es.map (·.1),0 < k/\(O4 rs k).length*k<=40/\(O4 rs k).length<=40/\k<=40:=fun k hk=>by
     obtain ⟨r,hr,lr⟩:=bl.key k hk;have rb:=rsb tp up r hr
     have e1:=an2 (l:=k) (rs:=O4 rs k) fun r hr=>(V6 hr).2
     have e2:=(ag2 rs k).length_le
     have k1:0 < k:=by omega
     have e3:(O4 rs k).length*k<=40:=by rw[<-e1];omega
     exact ⟨k1,e3,ee6 (ej0 _ k1) e3,by omega⟩
   have s02:c6 H H2:=s1.trans s12
   refine au1 (fun i σ H6=>∃(cs:List Addr) (v5 v6:Option V),σ=[some (.ref a),some (.int (m:Int)),some (.int ((K5 p m:Nat):Int)),some (.ref d),some (.ref C),v5,v6]/\H6 C=some (.lst (cs.map V.ref))/\M6 (cn7 (O6 H6 [C])) cs (((es.take i).map (·.1)).map (chF rs m))/\j5 C HB H6)
     ⟨[],none,none,rfl,hBC,M6.nil,j5.refl _ _⟩ (fun i σ H6 _ ⟨_,_,_,_,_,_,k⟩=>k _ _ hBd ndC) ?_ ?_
   · rintro i k v σ H6 hi ⟨cs,v5,v6,rfl,h6C,atc,kb6⟩;unfold C2 at hi;rw[ed9] at hi
     cases hE:es[i]? with
     |none=>rw[hE] at hi;cases hi
     |some e=>
      rw[hE] at hi;cases hi;have he:=ee1 hE;have hek:e.1∈es.map (·.1):=ee5.mpr ⟨e,he,rfl⟩;have il:i < es.length:=(ed3.mp hE).1;obtain ⟨k1,k2,k3,k4⟩:=fl40 e.1 hek;obtain ⟨bs,hbs,rbs⟩:=bl.row e he;have neC:e.2≠C:=g7 hbs hC;have h6e:H6 e.2=some (.lst (bs.map V.ref)):=kb6 _ _ (by rw[kpB _ (bl.nd e he)];exact s4 _ _ hbs) neC;have h6d:=kb6 _ _ hBd ndC;have s26:c6 H2 H6:=sB.kb kb6 hC2
      have lbs:bs.length=w6 rs e.1:=by rw[rbs.1,bm7]
      have ecnt:=bm7 rs e.1;refine ⟨_,rfl,_,rfl,d,.ref e.2,rfl,.inl ⟨C2 es,Sum.inl (e.1:Int),.inr ⟨o,h6d⟩,rfl,(cw4 bl.nk he).symm⟩,?_⟩;refine ⟨_,rfl,.inl ⟨rfl,_,g9.of h6C⟩,_,rfl,_,rfl,_,rfl,_,rfl,e.2,_,rfl,.inl (g9.of h6e),e.1,m,w6 rs e.1,by rw[ed2,lbs];rfl,by omega,by omega,fun ra H7 hra s7 h7ra=> ?_⟩;obtain ⟨d0,bas⟩:=bc7 (l:=e.1) (m:=m) (n:=w6 rs e.1) m1
      have jle:jf e.1 (B9 e.1 m (w6 rs e.1)) (O4 rs e.1).length<=2000:=by
        rw[ecnt];refine ee6 (show C9 e.1 m (w6 rs e.1)<=_ from dn0 (g:=fun l=>C9 l m (w6 rs l)) pos hek) ?_;rw[hprod];exact few
      have jne:jf e.1 (B9 e.1 m (w6 rs e.1)) (O4 rs e.1).length≠0:=by
        rw[ecnt];have:1<=C9 e.1 m (w6 rs e.1):=pos e.1 hek;intro y;have y:C9 e.1 m (w6 rs e.1)=0:=y;omega
      have fw:=cy3 (l:=e.1) bas k1 40 k3 (er1 ecnt) (fun r hr=>(V6 hr).2) (cy2 bas _ _ (ed5 _) jne) jle;refine ⟨_,rfl,e.2,bs,O4 rs e.1,ra,B9 e.1 m (w6 rs e.1),e.1,m,rfl,s7 _ _ h6e,J2 rbs fun b _ u x=>s7 _ _ (s26 _ _ x),h7ra,k3,fun r hr=>(V6 hr).2,k1,k2,(ag2 rs e.1).nodup up.nd,m1,fun d hd=>ad7 hd,fw,fun oo us H8 hoo s8 h8o und ufr atw=> ?_⟩;have s68:=s7.trans s8
      have lcs:cs.length<=40:=by
        have:=atc.1;rw[ed2,ed2,ee9] at this;omega
      have h7C:=s7 _ _ h6C;refine ⟨C,_,_,rfl,rfl,s68 _ _ h6C,m8 (by rw[ed2];omega),?_⟩;rw[show cs.map V.ref++[V.ref oo]=(cs++[oo]).map V.ref by rw[ed8];rfl];refine ⟨cs++[oo],_,_,rfl,c7,?_,(kb6.trans (s68.but C)).upd_a⟩;rw[bp6 ed7,m7 hE,ed8,ed8];refine M6.snoc (atc.imp fun c ways _ h=>h.keep (L6 s68)) ?_
      have nC:∀u,H7 u=none->u∉[C]:=fun u hu z=>by rw[ee3.mp z,h7C] at hu;cases hu
      refine ⟨us,by rw[P5 (nC oo hoo)];exact h8o,?_⟩;unfold chF;refine ⟨by rw[atw.1,ed2],fun j u x e1 e2=> ?_⟩;rw[ed9] at e2;obtain ⟨w,hw,ww⟩:=atw.get e1;rw[hw] at e2;cases e2;refine .inl ?_;rw[P5 (nC u (ufr u (ee1 e1)))];exact ww
   · rintro σ H6 ⟨cs,v5,v6,rfl,h6C,atc,kb6⟩;rw[lkv,eg4] at atc;have s26:c6 H2 H6:=sB.kb kb6 hC2;have s06:=s02.trans s26
     have cntk:∀k∈es.map (·.1),(chF rs m k).length=C9 k m (w6 rs k):=fun k hk=>dm9 (fl40 k hk).2.2.1
     refine ⟨_,rfl,_,rfl,a,C,p,cs,(es.map fun (x:Nat×Addr)=>x.1).map (chF rs m),rfl,s06 _ _ ha,lp,h6C,atc.imp fun c ways _ h=>h.keep (cc9 _ _),fun ways hw x hx=> ?_,fun i=> ?_,fun oo bs ts H7 hoo h7o rowsB pr srt bnd bfr ob kp=> ?_⟩
     · obtain ⟨k,hk,rfl⟩:=ee5.mp hw;obtain ⟨k1,k2,k3,k4⟩:=fl40 k hk;obtain ⟨w,hw',rfl⟩:=ee5.mp hx;have wo:=bl4 (l:=k) (m:=m) (ds:=B9 k m (w6 rs k)) (fun d hd=>(K8 hd).1) 40 k3 (fun r hr=>(V6 hr).2) hw'
       have rr:∀c∈w,W0 k m c.length:=fun c hc=>ad7 (wo.right c hc).1
       have fnd:=(ag2 rs k).nodup up.nd;refine ⟨cd4 k1 m1 w rr (wo.perm.nodup_iff.mpr fnd),fun e he=> ?_⟩;have em:=(an3 k1 m1 w rr).1 e.1 (ee5.mpr ⟨e,he,rfl⟩);have em:=(ag2 rs k).mem (wo.perm.mem_iff.mp em);obtain ⟨r,hr,hxr⟩:=ek1.mp em;obtain ⟨y,L,hy,pr2,er,_⟩:=up.ring r hr;rw[er] at hxr;exact ae7 tp hy _ hxr
     · rw[<-ew2,ba4 p (chF rs m) (fun l=>C9 l m (w6 rs l)) _ _ (ed5 _) fun k hk=>cntk k (ei4 hk)];refine ee6 (cy4 pos i) ?_;rw[hprod];exact few
     · refine q oo bs ts H7 (s06.free hoo) h7o rowsB ⟨?_,srt,.inr ⟨es.map (·.1),bl.nk,by rw[<-ers];exact bl.key,by rw[<-ers];exact bl.all,by rw[<-ers];exact pr⟩⟩ bnd (fun b hb=>s06.free (bfr b hb)) ob ((Kp.of s06).trans kp);rw[pr.length_eq,ba4 p (chF rs m) (fun l=>C9 l m (w6 rs l)) _ _ (ed5 _) cntk,hprod]
end
end My
namespace My
open PySem L2 Mth
section
def Rg (p:List Int)(l:Nat)(r:List Int):Prop:=∃y,In p y/\S8 p y l/\r=o6 p y l
theorem Rg.rot {p:List Int}(t:E6 p){l:Nat}{r:List Int}(h:Rg p l r)(b:Nat)(hb:b < l):Rg p l (r.drop b++r.take b):=by
 obtain ⟨y,hy,py,rfl⟩:=h;refine ⟨it p b y,ac7 t hy b,py.shift t hy b,?_⟩
 refine ej2 fun i=> ?_
 have e1:∀j,(o6 p y l)[j]? =if j < l then some (it p j y) else none:=fun j=>by
   unfold o6;rw[ed9]
   by_cases c:j < l
   · rw[ek0 c,if_pos c];rfl
   · rw[ef0 (by rw[eh2];omega),if_neg c];rfl
 have e2:(o6 p (it p b y) l)[i]? =if i < l then some (it p i (it p b y)) else none:=by
   unfold o6;rw[ed9]
   by_cases c:i < l
   · rw[ek0 c,if_pos c];rfl
   · rw[ef0 (by rw[eh2];omega),if_neg c];rfl
 rw[e2,<-M8]
 by_cases c:i < l - b
 · rw[ef8 (by rw[eg5,x6];exact c),ep7,e1,if_pos (by omega),if_pos (by omega),em1]
 · rw[ef6 (by rw[eg5,x6];omega),eg5,x6,es4]
   by_cases c2:i < l
   · rw[if_pos (by omega),e1,if_pos (by omega),if_pos c2]
     have e3:i+b=(i - (l - b))+l:=by omega
     rw[e3,M8,py.back]
   · rw[if_neg (by omega),if_neg c2]
theorem ck3 {p:List Int}(t:E6 p){l:Nat}{rs:List (List Int)}(h:∀r∈rs,Rg p l r):∀(i:Nat) {y:List Int×List (List Int)},i<=rs.length->y∈P6 rs i->Rg p l y.1
 |0,y,_,z=>by cases z
 |i+1,y,hi,z=>by
  rcases ee2.mp z with z|z
  · exact ck3 t h i (by omega) z
  · obtain ⟨b,hb,rfl⟩:=ee5.mp z
    have il:i < rs.length:=by omega
    have eg:rs.getD i []=rs[i]:=by rw[ee4,ed4 il];rfl
    have hr:=h _ (eg9 il);have hb:=ei2.mp hb;show Rg p l ((rs.getD i []).drop b++(rs.getD i []).take b);rw[eg] at hb ⊢
    have hl:(rs[i]).length=l:=by
      obtain ⟨y,_,_,e⟩:=hr;rw[e,x6]
    exact hr.rot t b (by omega)
theorem cd6 {p:List Int}{l:Nat}{r:List Int}(h:Rg p l r):r.length=l:=by
 obtain ⟨y,_,_,e⟩:=h;rw[e,x6]
theorem cd7 {p:List Int}(t:E6 p){l:Nat}{rs:List (List Int)}(h:∀r∈rs,Rg p l r):∀(k:Nat) {x:List (List Int)×List (List Int)},k < rs.length->x∈E4 rs k->∀r∈x.1,Rg p l r
 |0,x,hk,z,r,hr=>by
  rw[ee3.mp z] at hr;have hr:r∈[rs.getD 0 []]:=hr;rw[ee3.mp hr,ee4,ed4 hk];exact h _ (eg9 hk)
 |k+1,x,hk,z,r,hr=>by
  obtain ⟨x',h',z⟩:=el3.mp z;obtain ⟨y,hy,rfl⟩:=ee5.mp z;have o:=Y0 (fun r hr=>cd6 (h r hr)) k (by omega) h'
  rcases ee2.mp hr with w|w
  · exact cd7 t h k (by omega) h' r w
  · rw[ee3.mp w];exact ck3 t (fun r hr=>h r (o.rows2 r hr)) _ (ed5 _) hy
theorem cy5 {p:List Int}(t:E6 p){l:Nat}{ds:List Nat}(hd:∀d∈ds,1<=d):∀(f:Nat) {rs:List (List Int)} {w:List (List (List Int))},rs.length<=f->(∀r∈rs,Rg p l r)->w∈J6 ds f rs->∀c∈w,∀r∈c,Rg p l r
 |0,rs,w,hf,hl,h,c,hc=>by rw[ee3.mp h] at hc;cases hc
 |f+1,rs,w,hf,hl,h,c,hc=>by
  unfold J6 at h
  by_cases c0:rs.length=0
  · rw[if_pos c0] at h;rw[ee3.mp h] at hc;cases hc
  · rw[if_neg c0] at h;obtain ⟨d,hdm,h⟩:=el3.mp h;unfold aa1 at h
    by_cases c2:d<=rs.length
    · rw[if_pos c2] at h;obtain ⟨x,hx,h⟩:=el3.mp h;obtain ⟨w',hw',rfl⟩:=ee5.mp h;have d1:=hd d hdm;have o:=Y0 (fun r hr=>cd6 (hl r hr)) (d - 1) (by omega) hx
      rcases ee2.mp hc with z|z
      · exact cy5 t hd f (by have:=o.left;omega) (fun r hr=>hl r (o.rows2 r hr)) hw' c z
      · rw[ee3.mp z];exact cd7 t hl (d - 1) (by omega) hx
    · rw[if_neg c2] at h;cases h
theorem cy6 {l k:Nat}(l0:0 < l)(c:eh9 l k=1){Rs:List (List Int)}(h:∀r∈Rs,r.length=l):∃J,M4 l k Rs J:=by
 have it_:=au3 (d:=Rs.length) l0 c;have pl:=al3 Rs.length l k;have fl:=an2 h;refine ⟨(ei1 (Rs.length*l)).map fun (i:Nat)=>Rs.flatten.getD ((Z1 Rs.length l k).idxOf (i:Int)) 0,by rw[ed2,eh2],?_⟩
 refine ej2 fun n=> ?_
 rw[ed9,ed9]
 by_cases hn:n < Rs.length*l
 · have hp:n < (Z1 Rs.length l k).length:=by omega
   rw[ed4 hp,ed4 (show n < Rs.flatten.length by omega)];have v0:=it_.lo _ (eg9 hp);have v1:=it_.hi _ (eg9 hp);show some (J0 _ _)=some (some _)
   congr 1
   unfold J0;rw[ed9,ek0 (by omega)];show some (Rs.flatten.getD ((Z1 Rs.length l k).idxOf _) 0)=_;rw[show (((Z1 Rs.length l k)[n].toNat:Nat):Int)=(Z1 Rs.length l k)[n] by omega,it_.nd.idxOf_getElem n hp,ee4,ed4 (show n < Rs.flatten.length by omega)];rfl
 · rw[ef0 (by omega),ef0 (by omega)];rfl
theorem de5 {l m:Nat}{c:List (List Int)}(l0:0 < l)(m1:1<=m)(r:W0 l m c.length)(h:∀x∈c,x.length=l):∃k,m=c.length*k/\eh9 l k=1/\M4 l k c (P7 l m c):=by
 obtain ⟨k,e1,e2⟩:=r.parts m1;obtain ⟨J,j⟩:=cy6 l0 e2 h;exact ⟨k,e1,e2,by rw[cd3 l0 r.1 e1 e2 j];exact j⟩
inductive Pkd:List (List (Int×Int))->List (List (List (Int×Int)))->Prop
 |nil:Pkd [] []
 |cons {es:List (Int×Int)} {ess:List (List (Int×Int))} {ways:List (List (Int×Int))} {C6:List (List (List (Int×Int)))}:es∈ways->Pkd ess C6->Pkd (es::ess) (ways::C6)
theorem cd8:∀(C6:List (List (List (Int×Int)))) (laid:List (List Int)) {t:List Int},t∈C6.foldl aa6 laid->∃t0∈laid,∃ess,Pkd ess C6/\t=K1 t0 ess.flatten
 |[],laid,t,h=>⟨t,h,[],.nil,rfl⟩
 |c::C6,laid,t,h=>by
  obtain ⟨t1,h1,ess,pk,e⟩:=cd8 C6 (aa6 laid c) h;obtain ⟨t0,h0,z⟩:=el3.mp h1;obtain ⟨es,hes,rfl⟩:=ee5.mp z;refine ⟨t0,h0,es::ess,.cons hes pk,?_⟩;rw[e,eh4];unfold K1;rw[ew3]
theorem bl8:∀(es:List (Int×Int)) (t:List Int) {x:Int},0<=x->(∀e∈es,0<=e.1)->x∉es.map (·.1)->J0 (K1 t es) x=J0 t x
 |[],t,x,_,_,_=>rfl
 |e::es,t,x,x0,lo,h=>by
  rw[eh0,ee8,not_or] at h;show J0 (K1 (t.set e.1.toNat e.2) es) x=_;rw[bl8 es _ x0 (fun e he=>lo e (ee0 _ he)) h.2,ah5 x0 (lo e ed7) h.1]
theorem bt9:∀(es:List (Int×Int)) (t:List Int),(es.map (·.1)).Nodup->(∀e∈es,0<=e.1/\e.1 < (t.length:Int))->∀e∈es,J0 (K1 t es) e.1=some e.2
 |[],_,_,_,e,h=>by cases h
 |x::es,t,nd,b,e,h=>by
  rw[eh0,ei5] at nd;have bx:=b x ed7;show J0 (K1 (t.set x.1.toNat x.2) es) e.1=_
  rcases ee8.mp h with rfl|h
  · rw[bl8 es _ bx.1 (fun e he=>(b e (ee0 _ he)).1) nd.1];exact al1 (by omega)
  · exact bt9 es _ nd.2 (fun e he=>by rw[en9];exact b e (ee0 _ he)) e h
end
end My
namespace My
open PySem L2 Mth
section
theorem dn1 {p:List Int}{rs:List (List Int)}(up:J5 p p.length rs){r:List Int}(hr:r∈rs):Rg p r.length r:=by
 obtain ⟨y,L,hy,pr,er,_⟩:=up.ring r hr;exact ⟨y,hy,by rw[er,x6];exact pr,by rw[er,x6]⟩
theorem cy8 {p:List Int}(t:E6 p){l:Nat}{r:List Int}(h:Rg p l r){x:Int}(hx:x∈r):In p x/\S8 p x l/\ag7 p x=l:=by
 obtain ⟨y,hy,py,rfl⟩:=h;obtain ⟨j,_,rfl⟩:=M9.mp hx;have:=py.shift t hy j;exact ⟨ac7 t hy j,this,bf1 this⟩
structure eb1 (p:List Int)(rs:List (List Int))(m k:Nat)(es:List (Int×Int))(w:List (List (List Int))):Prop where
 eq:es=esW k m w
 perm:(w.map er2).flatten.Perm (O4 rs k).flatten
 right:∀c∈w,W0 k m c.length
 rg:∀c∈w,∀r∈c,Rg p k r
 nd:(es.map (·.1)).Nodup
 keys:∀x∈es.map (·.1),In p x/\ag7 p x=k
theorem dg8 {p:List Int}(t:E6 p)(lp:p.length<=40){rs:List (List Int)}(up:J5 p p.length rs){m k:Nat}(m1:1<=m)(k1:0 < k){es:List (Int×Int)}(h:es∈chF rs m k):∃w,eb1 p rs m k es w:=by
 obtain ⟨w,hw,rfl⟩:=ee5.mp h
 have fr:∀r∈O4 rs k,Rg p k r:=fun r hr=>by
   have:=dn1 up (V6 hr).1;rw[(V6 hr).2] at this;exact this
 have fl:=am3 t up
 have e1:=an2 (l:=k) (rs:=O4 rs k) fun r hr=>(V6 hr).2
 have e2:=(ag2 rs k).length_le;have k3:(O4 rs k).length<=40:=ee6 (ej0 _ k1) (by rw[<-e1];omega);have wo:=bl4 (l:=k) (m:=m) (ds:=B9 k m (w6 rs k)) (fun d hd=>(K8 hd).1) 40 k3 (fun r hr=>(V6 hr).2) hw
 have rr:∀c∈w,W0 k m c.length:=fun c hc=>ad7 (wo.right c hc).1
 have fnd:=(ag2 rs k).nodup up.nd;refine ⟨w,rfl,wo.perm,rr,cy5 t (fun d hd=>(K8 hd).1) 40 k3 fr hw,cd4 k1 m1 w rr (wo.perm.nodup_iff.mpr fnd),fun x hx=> ?_⟩;obtain ⟨r,hr,hxr⟩:=ek1.mp (wo.perm.mem_iff.mp ((an3 k1 m1 w rr).1 x hx));obtain ⟨a,_,b⟩:=cy8 t (fr r hr) hxr;exact ⟨a,b⟩
theorem cd9 {p:List Int}{f:Nat->List (List (Int×Int))}:∀(ks:List Nat) {ess:List (List (Int×Int))},ks.Nodup->(∀k∈ks,∀es∈f k,(es.map (·.1)).Nodup/\∀x∈es.map (·.1),In p x/\ag7 p x=k)->Pkd ess (ks.map f)->(ess.flatten.map (·.1)).Nodup/\(∀x∈ess.flatten.map (·.1),In p x/\ag7 p x∈ks)/\∀k∈ks,∃es∈ess,es∈f k
 |[],ess,_,_,pk=>by
  cases pk;exact ⟨ej6,(fun x hx=>by cases hx),(fun k hk=>by cases hk)⟩
 |k::ks,ess,nk,h,pk=>by
  cases pk with
  |cons hes pk=>
   rename_i es ess;rw[ei5] at nk;obtain ⟨a,b,c⟩:=cd9 ks nk.2 (fun k hk=>h k (ee0 _ hk)) pk;obtain ⟨d,e⟩:=h k ed7 es hes;rw[eh4,ed8];refine ⟨?_,fun x hx=> ?_,fun k' hk'=> ?_⟩
   · rw[ek7];refine ⟨d,a,fun x hx y hy z=> ?_⟩;have e1:=(e x hx).2;have e2:=(b y hy).2;rw[<-z,e1] at e2;exact nk.1 e2
   · rcases ee2.mp hx with z|z
     · exact ⟨(e x z).1,by rw[(e x z).2];exact ed7⟩
     · exact ⟨(b x z).1,ee0 _ (b x z).2⟩
   · rcases ee8.mp hk' with rfl|hk'
     · exact ⟨es,ed7,hes⟩
     · obtain ⟨es',h1,h2⟩:=c k' hk';exact ⟨es',ee0 _ h1,h2⟩
theorem cy9 {p:List Int}{m:Nat}(tp:E6 p)(lp:p.length<=40)(m1:1<=m){ks:List Nat}(nk:ks.Nodup)(h1:∀k∈ks,∃r∈C5 p p.length,r.length=k)(h2:∀r∈C5 p p.length,r.length∈ks){t:List Int}(ht:t∈ad6 p (ks.map (chF (C5 p p.length) m))):E6 t/\ac8 t (m:Int) p:=by
 have up:=bf4 tp;generalize C5 p p.length=rs at up h1 h2 ht
 have k0:∀k∈ks,0 < k:=fun k hk=>by
   obtain ⟨r,hr,e⟩:=h1 k hk;have:=(rsb tp up r hr).1;omega
 have hlen:=bt6 p _ t ht;obtain ⟨t0,h0,ess,pk,et⟩:=cd8 _ _ ht;rw[ee3.mp h0] at et
 obtain ⟨knd,kin,kall⟩:=cd9 (p:=p) ks nk (fun k hk es hes=>by
   obtain ⟨w,o⟩:=dg8 tp lp up m1 (k0 k hk) hes
   exact ⟨o.nd,o.keys⟩) pk
 have put:=bt9 ess.flatten p knd fun e he=>(kin e.1 (ee5.mpr ⟨e,he,rfl⟩)).1
 rw[<-et] at put
 have key:∀x,In p x->∃J,S9 t J/\by8 p m J x:=fun x hx=>by
   obtain ⟨r0,hr0,hxr⟩:=ek1.mp (up.all x hx.1 hx.2);obtain ⟨es,hes,hef⟩:=kall r0.length (h2 r0 hr0);have k1:=k0 _ (h2 r0 hr0);obtain ⟨w,o⟩:=dg8 tp lp up m1 k1 hef;have xf:x∈(O4 rs r0.length).flatten:=ek1.mpr ⟨r0,by unfold O4;exact en8.mpr ⟨hr0,decide_eq_true rfl⟩,hxr⟩;obtain ⟨cf,hcf,hxc⟩:=ek1.mp (o.perm.mem_iff.mpr xf);obtain ⟨c,hc,rfl⟩:=ee5.mp hcf;obtain ⟨row,hrow,hxrow⟩:=ek1.mp hxc;obtain ⟨a,ha⟩:=eg6.mp hrow;have al:=(ed3.mp ha).1
   have rows:∀r∈c,r.length=r0.length:=fun r hr=>cd6 (o.rg c hc r hr)
   obtain ⟨kk,e1,e2,js⟩:=de5 k1 m1 (o.right c hc) rows;obtain ⟨y,hy,py,er⟩:=o.rg c hc row hrow;rw[er] at hxrow;obtain ⟨b,hb,ex⟩:=M9.mp hxrow;have pm:=js.perm k1 e2
   have cnd:c.flatten.Nodup:=by
     have n1:((w.map er2).flatten).Nodup:=o.perm.nodup_iff.mpr ((ag2 rs _).nodup up.nd);exact (List.pairwise_flatten.mp n1).1 _ (ee5.mpr ⟨c,hc,rfl⟩)
   refine ⟨P7 r0.length m c,⟨fun z=> ?_,pm.nodup_iff.mpr cnd,fun z hz=> ?_,fun j hj=> ?_⟩,r0.length,kk,c,a,b,y,k1,e1,e2,rows,js,al,hb,hy,py,by rw[ee4,ha];exact er,ex⟩
   · have:=js.len;rw[z] at this;have p1:0 < c.length*r0.length:=ek8 (by omega) k1;rw[<-this] at p1;exact absurd p1 (by simp)
   · obtain ⟨r,hr,hzr⟩:=ek1.mp (pm.mem_iff.mp hz);exact (cy8 tp (o.rg c hc r hr) hzr).1.1
   · refine put ((P7 r0.length m c).getD j 0,(P7 r0.length m c).getD ((j+1)%(P7 r0.length m c).length) 0) (ek1.mpr ⟨es,hes,?_⟩);rw[o.eq];exact el3.mpr ⟨c,hc,ee5.mpr ⟨j,ei2.mpr hj,rfl⟩⟩
 have qs:∀n,n<=p.length->∃qs:List (List Int),(∀J∈qs,S9 t J)/\∀x:Int,0<=x->x < (n:Int)->∃J∈qs,by8 p m J x:=fun n=>by
   induction n with
   |zero=>exact fun _=>⟨[],(fun J hJ=>by cases hJ),fun x a b=>by omega⟩
   |succ n ih=>
    intro hn;obtain ⟨qs,a,b⟩:=ih (by omega);obtain ⟨J,c,d⟩:=key (n:Int) ⟨by omega,by omega⟩;refine ⟨J::qs,fun J' hJ'=> ?_,fun x x0 x1=> ?_⟩
    · rcases ee8.mp hJ' with rfl|z
      · exact c
      · exact a J' z
    · by_cases e:x=(n:Int)
      · rw[e];exact ⟨J,ed7,d⟩
      · obtain ⟨J',h1,h2⟩:=b x x0 (by omega);exact ⟨J',ee0 _ h1,h2⟩
 obtain ⟨qs,a,b⟩:=qs p.length (ed5 _)
 exact di3 tp hlen a fun x hx=>b x hx.1 hx.2
theorem de4.root {p:List Int}{m:Nat}{ts:List (List Int)}(h:de4 p m ts)(tp:E6 p)(lp:p.length<=40)(m1:1<=m):∀t∈ts,E6 t/\ac8 t (m:Int) p:=fun t ht=>by
 rcases h.src with z|⟨ks,nk,h1,h2,pr⟩
 · have:=h.len;rw[z] at this;rw[em4.mp this] at ht;cases ht
 · exact cy9 tp lp m1 nk h1 h2 (pr.mem_iff.mp ht)
end
end My
namespace My
open PySem L2 Mth PySem.Spec PyProof.Rows
section
def eb2 (K:PySem.W.Frag)(neg:Bool):R2:=fun x y H Q=>∃(p r:Addr) (bs:List Addr) (ts:List (List Int)) (q:List Int),x= .ref r/\y= .ref p/\g9 K H p (bs.map V.ref)/\x5 H bs ts/\H r=some (.lst (q.map V.int))/\Q (.bl (if neg then !decide (q∈ts) else decide (q∈ts))) H
open Classical in
noncomputable def eqR (H:Hp)(q:List Int)(y:Value):Bool:=decide (∃b,y= .ref b/\H b=some (.lst (q.map V.int)))
theorem bq0 {H:Hp}{q row:List Int}{b:Addr}(hb:H b=some (.lst (row.map V.int))):eqR H q (.ref b)=decide (row=q):=by
 unfold eqR
 by_cases c:row=q
 · rw[decide_eq_true c];exact @decide_eq_true _ (Classical.propDecidable _) ⟨b,rfl,by rw[<-c];exact hb⟩
 · rw[decide_eq_false c]
   refine @decide_eq_false _ (Classical.propDecidable _) fun ⟨b',e,h⟩=> ?_
   cases e;rw[hb] at h
   injection h with h
   injection h with h
   exact c (bd5 h)
theorem ao0 {bs:List Addr}:∀{its:List Value},n6 (bs.map V.ref) its->its=bs.map Value.ref:=by
 induction bs with
 |nil=>intro its h;cases h;rfl
 |cons b bs ih=>
  intro its h
  cases h with
  |cons r t=>
   cases r;rw[ih t];rfl
theorem ce0 {H:Hp}{q:List Int}:∀{bs:List Addr} {ts:List (List Int)},x5 H bs ts->(bs.map Value.ref).any (eqR H q)=decide (q∈ts)
 |[],[],_=>rfl
 |[],t::ts,h=>by have:=h.1;simp at this
 |b::bs,[],h=>by have:=h.1;simp at this
 |b::bs,t::ts,h=>by
  have h0:=h.2 0 b t rfl rfl;have ht:x5 H bs ts:=⟨by have:=h.1;simpa using this,fun j a r e1 e2=>h.2 (j+1) a r e1 e2⟩;rw[eh0,ev6,ce0 ht,bq0 h0,eq1,et7,decide_eq_true_iff,decide_eq_true_iff,decide_eq_true_iff,ee8];exact ⟨fun z=>z.elim (fun e=> .inl e.symm) .inr,fun z=>z.elim (fun e=> .inl e.symm) .inr⟩
theorem cz0 {X:Cx}(hu0:X.A.units+1+1 < cLine):R7 X (compareOp .NotIn) (eb2 X.K true):=by
 have hu:X.A.in1.units+0+1 < cLine:=by rw[Around.in1_units];exact hu0
 intro pins s σ H x y v u Q I rx ry h;obtain ⟨p,r,bs,ts,q,rfl,rfl,hq,rows,hr,k⟩:=h;cases rx;cases ry;obtain ⟨its,rr,pl,hz⟩:=I.list hq;have ei:=ao0 rr;refine SeqAt.notIn_listAt (eqR H q) pl.isList (fun w hw=> ?_) ⟨.bl _,H,I,rfl,?_⟩
 · have hw:w∈its:=by simpa using hw
   rw[ei] at hw;obtain ⟨b,hb,rfl⟩:=ee5.mp hw;obtain ⟨j,hj⟩:=eg6.mp hb;have jl:=(ed3.mp hj).1;have h1:=rows.2 j b _ hj (ed4 (by rw[<-rows.1];exact jl))
   by_cases e:b=r
   · subst e;rw[bq0 hr,decide_eq_true rfl];exact SeqAt.EqAt.same _
   · rw[bq0 h1];exact SeqAt.EqAt.of_refs e (cr0 (n:=0) I hu (g9.of h1) (g9.of hr) (X2 _ _ _ _ _))
 · rw[show its.toArray.any (eqR H q)=its.any (eqR H q) by simp,ei,ce0 rows];exact k
def dt6 (K:PySem.W.Frag):R2:=fun x y H Q=>(cz5 x y=true/\Q (.bl (decide (x=y))) H)\/(∃l xs b,x= .ref l/\y= .str b/\g9 K H l xs/\Q (.bl false) H)
theorem dt7 {X:Cx}(hu:X.A.units+1 < cLine):R7 X (compareOp .Eq) (dt6 X.K):=by
 intro pins s σ H x y v u Q I rx ry h
 rcases h with h|⟨l,xs,b,rfl,rfl,hq,q⟩
 · exact ac3 pins s σ H x y v u Q I rx ry h
 · cases rx;obtain ⟨t,rfl⟩:=ry;obtain ⟨its,rr,pl,hz⟩:=I.list hq;exact SeqAt.RcAt.list_str b t pl.isList (by omega) _ _ _ _ ⟨.bl false,H,I,rfl,q⟩
end
end My
namespace My
open PySem L2 Mth
section
variable {P:Program} {w:World} {K:PySem.W.Frag} {mg:Str->Option Value} {base:Heap} {zxx zzx zyy zy zzz zyz zzy zyx zx zxz zxy:Addr}
theorem aa7:n5 ["deck","p","some"] ["deck","p"] (i8 ad4):=by rfl'
theorem bh5 {f:Addr}{fd:FuncData}(F:B6 K "_law_bad_turns" "_law_bad_turns" ad4 f fd)(B:Bl mg)(zlz:o4 P w K mg base "_law_spoilt" 2 ["deck","p"] (af9 K 40))(zwz:o4 P w K mg base "_law_next" 1 ["deck"] ar0):m9 P w K mg base E2 3 f fd ["deck","p"] (af9 K 200):=by
 refine F.ok aa7 (fun vs H Q E h=> ?_) (fun cdv A outer s H vs Q E hr h=> ?_)
 · obtain ⟨g,pa,p,rfl,hg,npg,tp,q⟩:=h;rfl
 · obtain ⟨g,pa,p,rfl,hg,npg,tp,q⟩:=h;have zfz:l6 2 _:=hr.mono (by decide);have zv:l6 1 _:=hr.mono (by decide);refine ⟨_,@c8 _ _ _ _ _ (@i4 _ _ (2) _ _ _ _ aa7.nd rfl (Or.inl rfl) (@o5 _ _ _ _ (@bf6 _ 9 5 _ _ [.none,.str "01",.int (7),.bool true,.tuple [.int (0),.int (1)]] (by rfl) (@e7 _ _ _ _ _ (@V0 _ _) (@bb8 _ 9 _ [.list [.int (1)],.list [.int (0),.int (0)],.list [.int (0),.int (2)],.list [.int (-(1)),.int (0)],.list [.bool false],.list [.bool true,.int (0)],.list [.str "0"],.list [.int (0),.none]] (by rfl)) (by rfl)))) (by rfl) (by trivial)) (@c8 _ _ _ _ _ (@i4 _ _ (2) _ _ _ _ aa7.nd rfl (Or.inl rfl) (@i6 _ _ _ _ _ _ _ _ Q7 (@i6 _ _ _ _ _ _ _ _ Q7 (pv 2) (@o5 _ _ _ _ (@bf6 _ 9 1 _ _ [.list [.list [.int (0)]]] (by rfl) (@e7 _ _ _ _ _ (@V2 _ _ _ _ _ _ _ rfl B.list B.range (@e8 _ _ _ (@h8 _ _ _ _) (by rfl)) (by rfl) (by rfl) (by rfl) (by rfl)) (@bb8 _ 9 _ [.list [.int (1),.int (0),.int (10000000000000000000000000)],.str "",.tuple []] (by rfl)) (by rfl))))) (@i7 _ _ _ _ _ _ _ _ _ _ zlz zfz (@e7 _ _ _ _ _ (pv 0) (@e8 _ _ _ (pv 1) (by rfl)) (by rfl)) (by rfl) (by decide) (by rfl) (by rfl))) (by rfl) (by trivial)) (@g6 _ _ _ (@j9 _ _ _ _ (@i6 _ _ _ _ _ _ _ _ Q7 (pv 2) (@i7 _ _ _ _ _ _ _ _ _ _ zlz zfz (@e7 _ _ _ _ _ (pv 0) (@e8 _ _ _ (@V2 _ _ _ _ _ _ _ rfl B.list B.range (@e8 _ _ _ (@i6 _ _ _ _ _ _ _ _ C0 (@h8 _ _ _ _) (@i6 _ _ _ _ _ _ _ _ C1 (@i7 _ _ _ _ _ _ _ _ _ _ zwz zv (@e8 _ _ _ (pv 0) (by rfl)) (by rfl) (by decide) (by rfl) (by rfl)) (@h8 _ _ _ _))) (by rfl)) (by rfl) (by rfl) (by rfl) (by rfl)) (by rfl)) (by rfl)) (by rfl) (by decide) (by rfl) (by rfl)))))),?_⟩
   try dsimp only[t6,Cx.nox,Cx.wish]
   obtain ⟨og,hog⟩:=hg.some
   refine fun xs1 H1 s1 sa1=> ?_
   have b1:B7 K (C4 H1 g g) xs1:=(ai1 sa1 (by decide+kernel)).keep (ai0 hog hog);have l1:xs1.length=5:=sa1.length
   refine fun d hd=> ?_
   have s2:c6 H1 (c9 H1 d (.dK [])):=c6.upd_new hd;have ndg:d≠g:=hg.ne (s1.free hd);have h2d:C4 (c9 H1 d (.dK [])) g g d=some (.dK []):=O8 (by rw[c7]) ndg ndg;have b2:E3 K (C4 (c9 H1 d (.dK [])) g g) (.ref d)/\∃x,ShD (C4 (c9 H1 d (.dK [])) g g) (.ref d) x:=⟨.inl ⟨_,.dK h2d,bu8 K⟩,.dict [],.inr ⟨d,rfl,h2d,rfl⟩,by decide+kernel,by decide+kernel,by decide+kernel⟩;generalize (c9 H1 d (.dK []))=H2 at s2 h2d b2 ⊢
   refine fun xs3 H3 s3 sa3=> ?_
   have s13:=s1.trans s2;have l3:xs3.length=8:=sa3.length;have b3:B7 K (C4 H3 g g) xs3:=(ai1 sa3 (by decide+kernel)).keep (ai0 (s13 _ _ hog) (s13 _ _ hog));refine ⟨by simp only[ed6,eg3,l1,l3];decide,fun l hl=> ?_⟩;have s4:c6 H3 (c9 H3 l (.lst (xs1++ .ref d::xs3))):=c6.upd_new hl
   have h4l:(c9 H3 l (.lst (xs1++ .ref d::xs3))) l=some (.lst (xs1++ .ref d::xs3)):=by rw[c7]
   have b4:B7 K (C4 (c9 H3 l (.lst (xs1++ .ref d::xs3))) g g) (xs1++ .ref d::xs3):=B7.app (b1.keep (G2 (((s2.trans s3).trans s4).but g))) (B7.cons ⟨b2.1.keep (G2 ((s3.trans s4).but g)),let ⟨x,hx⟩:=b2.2;⟨x,hx.keep (G2 ((s3.trans s4).but g))⟩⟩ (b3.keep (G2 (s4.but g))))
   have l4:(xs1++ .ref d::xs3).length=14:=by simp only[ed6,eg3,l1,l3]
   have s04:c6 H (c9 H3 l (.lst (xs1++ .ref d::xs3))):=s13.trans (s3.trans s4);generalize (c9 H3 l (.lst (xs1++ .ref d::xs3)))=H4 at s4 h4l b4 s04 ⊢;generalize xs1++ .ref d::xs3=ys at h4l b4 l4;clear b1 b2 b3 sa1 sa3;refine ⟨_,rfl,fun xs5 H5 s5 sa5=> ?_⟩;have b5:B7 K (C4 H5 g g) xs5:=(ai1 sa5 (by decide+kernel)).keep (ai0 (s04 _ _ hog) (s04 _ _ hog));have l5:xs5.length=1:=sa5.length;refine ⟨41,rfl,fun r hr=> ?_⟩;have s6:c6 H5 (c9 H5 r (.rng 0 41)):=c6.upd_new hr
   have h6r:(c9 H5 r (.rng 0 41)) r=some (.rng 0 41):=by rw[c7]
   generalize (c9 H5 r (.rng 0 41))=H6 at s6 h6r ⊢;refine ⟨r,0,41,rfl,h6r,by decide,by decide,fun m hm=> ?_⟩;have s7:c6 H6 (c9 H6 m (.lst ((P0 0 ((41:Int) - 0).toNat).map V.int))):=c6.upd_new hm;have s06:c6 H H6:=s04.trans (s5.trans s6);have nmg:m≠g:=hg.ne (s06.free hm);have h7m:C4 (c9 H6 m (.lst ((P0 0 ((41:Int) - 0).toNat).map V.int))) g g m=some (.lst ((P0 0 41).map V.int)):=O8 (by rw[c7];rfl) nmg nmg
   have lu:(P0 0 41).length=41:=by decide
   have b7:=cc2 (K:=K) h7m (fun h=>by omega) (by omega) (by decide);generalize (c9 H6 m (.lst ((P0 0 ((41:Int) - 0).toNat).map V.int)))=H7 at s7 h7m b7 ⊢
   refine fun xs8 H8 s8 sa8=> ?_
   have s07:=s06.trans s7;have b8:B7 K (C4 H8 g g) xs8:=(ai1 sa8 (by decide+kernel)).keep (ai0 (s07 _ _ hog) (s07 _ _ hog));have l8:xs8.length=3:=sa8.length;refine ⟨by simp only[ed6,eg3,l5,l8];decide,fun n hn=> ?_⟩;have s9:c6 H8 (c9 H8 n (.lst (xs5++ .ref m::xs8))):=c6.upd_new hn
   have h9n:(c9 H8 n (.lst (xs5++ .ref m::xs8))) n=some (.lst (xs5++ .ref m::xs8)):=by rw[c7]
   have b9:B7 K (C4 (c9 H8 n (.lst (xs5++ .ref m::xs8))) g g) (xs5++ .ref m::xs8):=B7.app (b5.keep (G2 (((s6.trans s7).trans (s8.trans s9)).but g))) (B7.cons ⟨b7.1.keep (G2 ((s8.trans s9).but g)),let ⟨x,hx⟩:=b7.2;⟨x,hx.keep (G2 ((s8.trans s9).but g))⟩⟩ (b8.keep (G2 (s9.but g))))
   have l9:(xs5++ .ref m::xs8).length=5:=by simp only[ed6,eg3,l5,l8]
   have s49:c6 H4 (c9 H8 n (.lst (xs5++ .ref m::xs8))):=(s5.trans (s6.trans s7)).trans (s8.trans s9);generalize (c9 H8 n (.lst (xs5++ .ref m::xs8)))=H9 at s9 h9n b9 s49 ⊢;generalize xs5++ .ref m::xs8=zs at h9n b9 l9;clear b5 b7 b8 sa5 sa8;refine ⟨l,n,_,_,rfl,rfl,s49 _ _ h4l,h9n,eh1 (m8 (by omega)),fun c hc=> ?_⟩;have s10:c6 H9 (c9 H9 c (.lst (ys++zs))):=c6.upd_new hc
   have h10c:(c9 H9 c (.lst (ys++zs))) c=some (.lst (ys++zs)):=by rw[c7]
   have b10:B7 K (C4 (c9 H9 c (.lst (ys++zs))) g g) (ys++zs):=B7.app (b4.keep (G2 ((s49.trans s10).but g))) (b9.keep (G2 (s10.but g)));have s010:c6 H (c9 H9 c (.lst (ys++zs))):=s04.trans (s49.trans s10);generalize (c9 H9 c (.lst (ys++zs)))=H10 at s10 h10c b10 s010 ⊢;have ncg:c≠g:=hg.ne ((s04.trans s49).free hc);refine ⟨_,rfl,_,rfl,g,pa,p,rfl,hg.same s010,npg,⟨s010 _ _ tp.1,tp.2⟩,fun l2 xs H11 hl2 k11 D11 h11 lx b11=> ?_⟩;refine ⟨c,l2,_,_,rfl,rfl,k11 _ _ h10c ncg,h11,eh1 (m8 (by rw[ed6];omega)),fun w hw=> ?_⟩;have s12:c6 H11 (c9 H11 w (.lst (ys++zs++xs))):=c6.upd_new hw;have hw0:H w=none:=s010.free (k11.free hw (D11.ne hw));have b12:B7 K (C4 (c9 H11 w (.lst (ys++zs++xs))) g g) (ys++zs++xs):=B7.app ((b10.keep (G2 k11)).keep (G2 (s12.but g))) (b11.keep (G2 (s12.but g)));have k012:j5 g H (c9 H11 w (.lst (ys++zs++xs))):=(s010.but g).trans (k11.trans (s12.but g));have D12:=D11.same s12;have h12w:(c9 H11 w (.lst (ys++zs++xs))) w=some (.lst (ys++zs++xs)):=c7
   have lw:(ys++zs++xs).length<=100:=by simp only[ed6];omega
   have nwg:w≠g:=D11.ne hw;generalize (c9 H11 w (.lst (ys++zs++xs)))=H12 at s12 b12 k012 D12 h12w ⊢;generalize ys++zs++xs=ws at b12 h12w lw;refine ⟨_,rfl,_,rfl,_,rfl,g,rfl,D12,fun x H13 x0 D13 kb13=>⟨_,_,rfl,rfl,(by show (0:Int) < 24;decide),_,_,rfl,rfl,?_⟩⟩;have c1:=eh6 x (show (24:Int)≠0 by decide);have c2:=ei7 x (show (0:Int) < 24 by decide);obtain ⟨y,hy⟩:=em2 c1;obtain ⟨nn,hnn⟩:∃nn:Nat,(17:Int)+x%24=(nn:Int):=⟨17+y,by omega⟩;refine ⟨(nn:Int),by rw[<-hnn],fun r hr=> ?_⟩;have s14:c6 H13 (c9 H13 r (.rng 0 (nn:Int))):=c6.upd_new hr;have h14r:(c9 H13 r (.rng 0 (nn:Int))) r=some (.rng 0 (nn:Int)):=c7;generalize (c9 H13 r (.rng 0 (nn:Int)))=H14 at s14 h14r ⊢;refine ⟨r,0,(nn:Int),rfl,h14r,⟨by decide,by decide,by omega,by omega⟩,by omega,fun mm hmm=> ?_⟩;rw[show ((nn:Int) - 0).toNat=nn by omega];have s15:c6 H14 (c9 H14 mm (.lst ((L2.P0 0 nn).map V.int))):=c6.upd_new hmm;have h15m:(c9 H14 mm (.lst ((L2.P0 0 nn).map V.int))) mm=some (.lst ((L2.P0 0 nn).map V.int)):=c7;generalize (c9 H14 mm (.lst ((L2.P0 0 nn).map V.int)))=H15 at s15 h15m ⊢;have D14:=D13.same s14;have nmg2:mm≠g:=D14.ne hmm;have D15:=D14.same s15;have k1215:j5 g H12 H15:=kb13.trans ((s14.trans s15).but g);have itT:E6 (L2.P0 0 nn):=⟨aj5 nn,fun x hx=>(V1.mp hx).1,fun x hx=>by rw[J9];exact (V1.mp hx).2⟩;refine ⟨g,mm,L2.P0 0 nn,rfl,D15,nmg2,⟨h15m,itT,by rw[J9];omega⟩,fun l3 xs3 H16 hl3 k16 D16 h16 lx3 b16=> ?_⟩;have k1216:=k1215.trans k16;refine ⟨w,l3,_,_,rfl,rfl,k1216 _ _ h12w nwg,h16,eh1 (m8 (by omega)),fun oo hoo=> ?_⟩;have s17:c6 H16 (c9 H16 oo (.lst (ws++xs3))):=c6.upd_new hoo;have k017:=k012.trans (k1216.trans (s17.but g));have noo:oo≠g:=D16.ne hoo;exact q oo _ _ ((k012.trans k1216).free hoo noo) k017 (D16.same s17) c7 (by rw[ed6];omega) (B7.app ((b12.keep (G2 k1216)).keep (G2 (s17.but g))) (b16.keep (G2 (s17.but g))))
def bq1 (K:PySem.W.Frag)(qt qn:Addr):Sp:=fun vs H _ E=>∃v m,vs=[v,.int m]/\((E3 K H v/\∀H',c6 H H'->E (.ref qt) none H')\/(∃a p,v= .ref a/\x9 H a p/\m < 1/\∀H',c6 H H'->E (.ref qn) none H'))
theorem ba7 {f:Addr}{fd:FuncData}(F:B6 K "how_many_roots" "how_many_roots" V4 f fd)(zvx:O2 P w K mg base "must_be_turn" 3 ["thing"] (fun vs H Q E=>aq9 vs H Q E\/(bc4 K zzx) vs H Q E))(zwx:O2 P w K mg base "must_be_from_one" 2 ["number"] (fun vs H Q E=>bc2 vs H Q E\/(bk8 zzz) vs H Q E)):m9 P w K mg base (CX1 P w) 4 f fd ["p","m"] (bq1 K zzx zzz):=by
 refine F.okx L9 (fun vs H Q E h=> ?_) (fun cdv A outer s H vs Q E hr h=> ?_)
 · obtain ⟨v,m,rfl,h⟩:=h;rfl
 · obtain ⟨v,m,rfl,h⟩:=h;have zty:l6 3 _:=hr.mono (by decide);have zuy:l6 2 _:=hr.mono (by decide);refine ⟨_,@c8 _ _ _ _ _ (@w9 _ _ _ _ (@W1 _ _ _ _ _ _ _ _ _ _ _ zvx zty (@O5 _ _ _ _ _ _ _ _ _ _ _ _ _ _ _ _ fun _ _ _ h=>h) (@e8 _ _ _ (pv 0) (by rfl)) (by rfl) (by decide) (by rfl) (by rfl)) (by rfl)) (@c8 _ _ _ _ _ (@w9 _ _ _ _ (@W1 _ _ _ _ _ _ _ _ _ _ _ zwx zuy (@O5 _ _ _ _ _ _ _ _ _ _ _ _ _ _ _ _ fun _ _ _ h=>h) (@e8 _ _ _ (pv 1) (by rfl)) (by rfl) (by decide) (by rfl) (by rfl)) (by rfl)) (@an4 _ _)),?_⟩
   try dsimp only[t6,Cx.nox,Cx.wish]
   rcases h with ⟨no,k⟩|⟨a,p,rfl,tp,hm,k⟩
   · exact ⟨_,rfl,.inr ⟨v,rfl,no,k⟩⟩
   · refine ⟨_,rfl,.inl ⟨a,p,rfl,tp,fun H1 s1=> ?_⟩⟩;exact ⟨_,rfl,.inr ⟨m,rfl,hm,k H1 s1⟩⟩
def ce1 (q:Addr):Sp:=fun vs H _ E=>∃(n:Int),vs=[.int n]/\2000 < n/\E (.ref q) none H
theorem bl9 {f:Addr}{fd:FuncData}(F:B6 K "must_be_few" "must_be_few" Z9 f fd)(zr:∃t,mg "MOST_TOLD"=some (.int 2000 t))(zfy:Err K mg "TooMany" zzy):m9 P w K mg base (CX1 P w) 1 f fd ["many"] (ce1 zzy):=by
 refine F.okx ar5 (fun vs H Q E h=> ?_) (fun cdv A outer s H vs Q E hr h=> ?_)
 · obtain ⟨n,rfl,hn,q⟩:=h;rfl
 · obtain ⟨n,rfl,hn,q⟩:=h;obtain ⟨_,zhy⟩:=zr;refine ⟨_,@g6 _ _ _ (@y8 _ _ _ _ _ _ _ _ (@j6 _ _ _ _ _ _ _ _ an5 (pv 0) (@N6 _ _ (.int 2000) _ _ (by rfl) zhy ⟨_,rfl⟩ (by decide)) (j7 _)) (@g6 _ _ _ (@ae8 _ _ _ _ _ _ _ _ _ ab1 rfl zfy (@G3 _ _ _ _) (by rfl) (by rfl) (by decide))) (@o7 _)),?_⟩
   try dsimp only[t6,Cx.nox,Cx.wish]
   refine ⟨_,rfl,_,_,rfl,rfl,_,rfl,?_⟩;rw[decide_eq_true hn];exact J8 q
def ba8 (K:PySem.W.Frag)(qt qn qm:Addr):Sp:=fun vs H _ E=>∃v m,vs=[v,.int m]/\((E3 K H v/\∀H',c6 H H'->E (.ref qt) none H')\/(∃a p,v= .ref a/\x9 H a p/\m < 1/\∀H',c6 H H'->E (.ref qn) none H')\/
 (∃(a:Addr) (p:List Int) (k:Nat),v= .ref a/\m=(k:Int)/\x9 H a p/\1<=k/\2000 < K5 p k/\∀H',c6 H H'->E (.ref qm) none H'))
theorem bv5 {f:Addr}{fd:FuncData}(F:B6 K "all_roots" "all_roots" ag9 f fd)(zux:O2 P w K mg base "how_many_roots" 4 ["p","m"] (fun vs H Q E=>ah9 vs H Q E\/(bq1 K zzx zzz) vs H Q E))(zsy:O2 P w K mg base "must_be_few" 1 ["many"] (fun vs H Q E=>ba5 vs H Q E\/(ce1 zzy) vs H Q E)):m9 P w K mg base (CX1 P w) 44 f fd ["p","m"] (ba8 K zzx zzz zzy):=by
 refine F.okx N5 (fun vs H Q E h=> ?_) (fun cdv A outer s H vs Q E hr h=> ?_)
 · obtain ⟨v,m,rfl,h⟩:=h;rfl
 · obtain ⟨v,m,rfl,h⟩:=h;have zoz:l6 4 _:=hr.mono (by decide);have zkz:l6 1 _:=hr.mono (by decide);refine ⟨_,@c8 _ _ _ _ _ (@i4 _ _ (2) _ _ _ _ N5.nd rfl (Or.inl rfl) (@W1 _ _ _ _ _ _ _ _ _ _ _ zux zoz (@O5 _ _ _ _ _ _ _ _ _ _ _ _ _ _ _ _ fun _ _ _ h=>h) (@e7 _ _ _ _ _ (pv 0) (@e8 _ _ _ (pv 1) (by rfl)) (by rfl)) (by rfl) (by decide) (by rfl) (by rfl)) (by rfl) (by trivial)) (@c8 _ _ _ _ _ (@w9 _ _ _ _ (@W1 _ _ _ _ _ _ _ _ _ _ _ zsy zkz (@O5 _ _ _ _ _ _ _ _ _ _ _ _ _ _ _ _ fun _ _ _ h=>h) (@e8 _ _ _ (pv 2) (by rfl)) (by rfl) (by decide) (by rfl) (by rfl)) (by rfl)) (@an4 _ _)),?_⟩
   try dsimp only[t6,Cx.nox,Cx.wish]
   rcases h with ⟨no,k⟩|⟨a,p,rfl,tp,hm,k⟩|⟨a,p,n,rfl,rfl,tp,n1,big,k⟩
   · exact ⟨_,rfl,_,rfl,.inr ⟨v,m,rfl,.inl ⟨no,k⟩⟩⟩
   · exact ⟨_,rfl,_,rfl,.inr ⟨_,m,rfl,.inr ⟨a,p,rfl,tp,hm,k⟩⟩⟩
   · refine ⟨_,rfl,_,rfl,.inl ⟨a,p,n,rfl,tp,n1,fun H1 s1=> ?_⟩⟩;exact ⟨_,rfl,.inr ⟨_,rfl,by omega,k H1 s1⟩⟩
def ce2 (q:Addr):Sp:=fun vs H _ E=>∃(a b:Addr) (xs ys:List V),vs=[.ref a,.ref b]/\H a=some (.lst xs)/\H b=some (.lst ys)/\xs.length≠ys.length/\E (.ref q) none H
def bm0:Sp:=fun vs H Q _=>∃(a b:Addr) (xs ys:List V),vs=[.ref a,.ref b]/\H a=some (.lst xs)/\H b=some (.lst ys)/\xs.length=ys.length/\Q .non H
theorem be2:n5 ["p","q"] ["p","q"] (i8 aj6):=by rfl'
theorem be3 {f:Addr}{fd:FuncData}(F:B6 K "must_fit" "must_fit" aj6 f fd)(B:Bl mg):m9 P w K mg base E2 1 f fd ["p","q"] bm0:=by
 refine F.ok be2 (fun vs H Q E h=> ?_) (fun cdv A outer s H vs Q E hr h=> ?_)
 · obtain ⟨a,b,xs,ys,rfl,ha,hb,e,q⟩:=h;rfl
 · obtain ⟨a,b,xs,ys,rfl,ha,hb,e,q⟩:=h;refine ⟨_,@g6 _ _ _ (@y8 _ _ _ _ _ _ _ _ (@j6 _ _ _ _ _ _ _ _ R9 (@o8 _ _ _ _ _ B.len (@e8 _ _ _ (pv 0) (by rfl)) (by rfl) (by rfl)) (@o8 _ _ _ _ _ B.len (@e8 _ _ _ (pv 1) (by rfl)) (by rfl) (by rfl)) (j7 _)) (@g6 _ _ _ (@ar9 _ _)) (@o7 _)),?_⟩
   try dsimp only[t6,Cx.nox,Cx.wish]
   refine ⟨_,rfl,a,xs,rfl,.inl (g9.of ha),_,rfl,b,ys,rfl,.inl (g9.of hb),rfl,_,rfl,?_⟩;rw[decide_eq_true (congrArg V.int (by rw[e]))];exact y7 q
theorem ce3 {f:Addr}{fd:FuncData}(F:B6 K "must_fit" "must_fit" aj6 f fd)(B:Bl mg)(zby:Err K mg "NoFit" zyy):m9 P w K mg base (CX1 P w) 1 f fd ["p","q"] (ce2 zyy):=by
 refine F.okx be2 (fun vs H Q E h=> ?_) (fun cdv A outer s H vs Q E hr h=> ?_)
 · obtain ⟨a,b,xs,ys,rfl,ha,hb,ne,q⟩:=h;rfl
 · obtain ⟨a,b,xs,ys,rfl,ha,hb,ne,q⟩:=h;refine ⟨_,@g6 _ _ _ (@y8 _ _ _ _ _ _ _ _ (@j6 _ _ _ _ _ _ _ _ R9 (@o8 _ _ _ _ _ B.len (@e8 _ _ _ (pv 0) (by rfl)) (by rfl) (by rfl)) (@o8 _ _ _ _ _ B.len (@e8 _ _ _ (pv 1) (by rfl)) (by rfl) (by rfl)) (j7 _)) (@g6 _ _ _ (@ae8 _ _ _ _ _ _ _ _ _ ab1 rfl zby (@G3 _ _ _ _) (by rfl) (by rfl) (by decide))) (@o7 _)),?_⟩
   try dsimp only[t6,Cx.nox,Cx.wish]
   refine ⟨_,rfl,a,xs,rfl,.inl (g9.of ha),_,rfl,b,ys,rfl,.inl (g9.of hb),rfl,_,rfl,?_⟩;rw[decide_eq_false fun z=>ne (by have:=V.int.inj z;omega)];exact J8 q
def ce4 (K:PySem.W.Frag)(qt qn qf qm qr:Addr):Sp:=fun vs H _ E=>∃v m u,vs=[v,.int m,u]/\((E3 K H v/\∀H',c6 H H'->E (.ref qt) none H')\/
 (∃a p,v= .ref a/\x9 H a p/\((E3 K H u/\∀H',c6 H H'->E (.ref qt) none H')\/∃b r,u= .ref b/\x9 H b r/\((m < 1/\∀H',c6 H H'->E (.ref qn) none H')\/
   (∃k:Nat,m=(k:Int)/\1<=k/\((p.length≠r.length/\∀H',c6 H H'->E (.ref qf) none H')\/(p.length=r.length/\2000 < K5 p k/\∀H',c6 H H'->E (.ref qm) none H')\/
     (p.length=r.length/\K5 p k<=2000/\¬ac8 r (k:Int) p/\∀H',Kp H H'->E (.ref qr) none H')))))))
theorem aj0:n5 ["p","m","r","roots"] ["p","m","r"] (i8 aa4):=by rfl'
theorem ba9 {f:Addr}{fd:FuncData}(F:B6 K "number_of_root" "number_of_root" aa4 f fd)(zvx:O2 P w K mg base "must_be_turn" 3 ["thing"] (fun vs H Q E=>aq9 vs H Q E\/(bc4 K zzx) vs H Q E))(zwx:O2 P w K mg base "must_be_from_one" 2 ["number"] (fun vs H Q E=>bc2 vs H Q E\/(bk8 zzz) vs H Q E))(zcy:O2 P w K mg base "must_fit" 1 ["p","q"] (fun vs H Q E=>bm0 vs H Q E\/(ce2 zyy) vs H Q E))(zqy:O2 P w K mg base "all_roots" 44 ["p","m"] (fun vs H Q E=>ar7 vs H Q E\/(ba8 K zzx zzz zzy) vs H Q E))(zdx:Err K mg "NoRoot" zyz):m9 P w K mg base (CX1 P w) 45 f fd ["p","m","r"] (ce4 K zzx zzz zyy zzy zyz):=by
 refine F.okx aj0 (fun vs H Q E h=> ?_) (fun cdv A outer s H vs Q E hr h=> ?_)
 · obtain ⟨v,m,u,rfl,h⟩:=h;rfl
 · obtain ⟨v,m,u,rfl,h⟩:=h;have zty:l6 3 _:=hr.mono (by decide);have zuy:l6 2 _:=hr.mono (by decide);have yy:l6 1 _:=hr.mono (by decide);have zpy:l6 44 _:=hr.mono (by decide);have hu:=Q8 hr;have hu2:_+1+1 < cLine:=eg1 (er5 (by decide:2<=64) _) hr.units;refine ⟨_,@c8 _ _ _ _ _ (@w9 _ _ _ _ (@W1 _ _ _ _ _ _ _ _ _ _ _ zvx zty (@O5 _ _ _ _ _ _ _ _ _ _ _ _ _ _ _ _ fun _ _ _ h=>h) (@e8 _ _ _ (pv 0) (by rfl)) (by rfl) (by decide) (by rfl) (by rfl)) (by rfl)) (@c8 _ _ _ _ _ (@w9 _ _ _ _ (@W1 _ _ _ _ _ _ _ _ _ _ _ zvx zty (@O5 _ _ _ _ _ _ _ _ _ _ _ _ _ _ _ _ fun _ _ _ h=>h) (@e8 _ _ _ (pv 2) (by rfl)) (by rfl) (by decide) (by rfl) (by rfl)) (by rfl)) (@c8 _ _ _ _ _ (@w9 _ _ _ _ (@W1 _ _ _ _ _ _ _ _ _ _ _ zwx zuy (@O5 _ _ _ _ _ _ _ _ _ _ _ _ _ _ _ _ fun _ _ _ h=>h) (@e8 _ _ _ (pv 1) (by rfl)) (by rfl) (by decide) (by rfl) (by rfl)) (by rfl)) (@c8 _ _ _ _ _ (@w9 _ _ _ _ (@W1 _ _ _ _ _ _ _ _ _ _ _ zcy yy (@O5 _ _ _ _ _ _ _ _ _ _ _ _ _ _ _ _ fun _ _ _ h=>h) (@e7 _ _ _ _ _ (pv 0) (@e8 _ _ _ (pv 2) (by rfl)) (by rfl)) (by rfl) (by decide) (by rfl) (by rfl)) (by rfl)) (@c8 _ _ _ _ _ (@i4 _ _ (3) _ _ _ _ aj0.nd rfl (Or.inl rfl) (@W1 _ _ _ _ _ _ _ _ _ _ _ zqy zpy (@O5 _ _ _ _ _ _ _ _ _ _ _ _ _ _ _ _ fun _ _ _ h=>h) (@e7 _ _ _ _ _ (pv 0) (@e8 _ _ _ (pv 1) (by rfl)) (by rfl)) (by rfl) (by decide) (by rfl) (by rfl)) (by rfl) (by trivial)) (@c8 _ _ _ _ _ (@y8 _ _ _ _ _ _ _ _ (@j6 _ _ _ _ _ _ _ _ (cz0 hu2) (pv 2) (pv 3) (by with_unfolding_all rfl)) (@g6 _ _ _ (@ae8 _ _ _ _ _ _ _ _ _ ab1 rfl zdx (@G3 _ _ _ _) (by rfl) (by rfl) (by decide))) (@o7 _)) (@an4 _ _)))))),?_⟩
   try dsimp only[t6,Cx.nox,Cx.wish]
   rcases h with ⟨no,k⟩|⟨a,p,rfl,tp,h⟩
   · exact ⟨_,rfl,.inr ⟨v,rfl,no,k⟩⟩
   refine ⟨_,rfl,.inl ⟨a,p,rfl,tp,fun H1 s1=> ?_⟩⟩
   rcases h with ⟨no,k⟩|⟨b,r,rfl,tr,h⟩
   · exact ⟨_,rfl,.inr ⟨u,rfl,no.keep s1,fun H2 s2=>k H2 (s1.trans s2)⟩⟩
   refine ⟨_,rfl,.inl ⟨b,r,rfl,⟨s1 _ _ tr.1,tr.2⟩,fun H2 s2=> ?_⟩⟩;have s02:=s1.trans s2
   rcases h with ⟨hm,k⟩|⟨n,rfl,n1,h⟩
   · exact ⟨_,rfl,.inr ⟨m,rfl,hm,k H2 s02⟩⟩
   refine ⟨_,rfl,.inl ⟨(n:Int),rfl,by omega,?_⟩⟩
   rcases h with ⟨ne,k⟩|⟨e,big,k⟩|⟨e,few,nr,k⟩
   · exact ⟨_,rfl,_,rfl,.inr ⟨a,b,_,_,rfl,s02 _ _ tp.1,s02 _ _ tr.1,by simpa using ne,k H2 s02⟩⟩
   · refine ⟨_,rfl,_,rfl,.inl ⟨a,b,_,_,rfl,s02 _ _ tp.1,s02 _ _ tr.1,by simpa using e,?_⟩⟩;exact ⟨_,rfl,_,rfl,.inr ⟨.ref a,_,rfl,.inr (.inr ⟨a,p,n,rfl,rfl,⟨s02 _ _ tp.1,tp.2⟩,n1,big,fun H3 s3=>k H3 (s02.trans s3)⟩)⟩⟩
   · refine ⟨_,rfl,_,rfl,.inl ⟨a,b,_,_,rfl,s02 _ _ tp.1,s02 _ _ tr.1,by simpa using e,?_⟩⟩;refine ⟨_,rfl,_,rfl,.inl ⟨a,p,n,rfl,⟨s02 _ _ tp.1,tp.2⟩,n1,few,fun o bs ts H3 ho h3o rows all bnd bfr ob kp=> ?_⟩⟩;have k03:Kp H H3:=(Kp.of s02).trans kp;refine ⟨_,rfl,_,rfl,o,b,bs,ts,r,rfl,rfl,g9.of h3o,rows,k03.lst tr.1,_,rfl,?_⟩
     have nm:r∉ts:=fun z=>nr (all.root tp.2.1 tp.2.2 n1 r z).2
     rw[decide_eq_false nm];exact J8 (k H3 k03)
def ce5 (K:PySem.W.Frag)(qt qn qm:Addr):Sp:=fun vs H _ E=>∃v m k,vs=[v,.int m,.int k]/\((E3 K H v/\∀H',c6 H H'->E (.ref qt) none H')\/(∃a p,v= .ref a/\x9 H a p/\m < 1/\∀H',c6 H H'->E (.ref qn) none H')\/
 (∃(a:Addr) (p:List Int) (n:Nat),v= .ref a/\m=(n:Int)/\x9 H a p/\1<=n/\((2000 < K5 p n/\∀H',c6 H H'->E (.ref qm) none H')\/(K5 p n<=2000/\(k < 0\/(K5 p n:Int)<=k)/\∀H',Kp H H'->E (.ref qn) none H'))))
theorem be4:n5 ["p","m","k","roots"] ["p","m","k"] (i8 av0):=by rfl'
theorem ce6 {f:Addr}{fd:FuncData}(F:B6 K "nth_root" "nth_root" av0 f fd)(B:Bl mg)(zqy:O2 P w K mg base "all_roots" 44 ["p","m"] (fun vs H Q E=>ar7 vs H Q E\/(ba8 K zzx zzz zzy) vs H Q E))(zu:o4 P w K mg base "is_whole" 1 ["thing"] (af5 K))(zpx:Err K mg "NoNumber" zzz):m9 P w K mg base (CX1 P w) 45 f fd ["p","m","k"] (ce5 K zzx zzz zzy):=by
 refine F.okx be4 (fun vs H Q E h=> ?_) (fun cdv A outer s H vs Q E hr h=> ?_)
 · obtain ⟨v,m,k,rfl,h⟩:=h;rfl
 · obtain ⟨v,m,k,rfl,h⟩:=h;have zpy:l6 44 _:=hr.mono (by decide);have zox:l6 1 _:=hr.mono (by decide);refine ⟨_,@c8 _ _ _ _ _ (@i4 _ _ (3) _ _ _ _ be4.nd rfl (Or.inl rfl) (@W1 _ _ _ _ _ _ _ _ _ _ _ zqy zpy (@O5 _ _ _ _ _ _ _ _ _ _ _ _ _ _ _ _ fun _ _ _ h=>h) (@e7 _ _ _ _ _ (pv 0) (@e8 _ _ _ (pv 1) (by rfl)) (by rfl)) (by rfl) (by decide) (by rfl) (by rfl)) (by rfl) (by trivial)) (@c8 _ _ _ _ _ (@y8 _ _ _ _ _ _ _ _ (@O0 _ _ _ _ _ _ _ (@V8 _ _ _ _ (@V7 _ _ _ (@i7 _ _ _ _ _ _ _ _ _ _ zu zox (@e8 _ _ _ (pv 2) (by rfl)) (by rfl) (by decide) (by rfl) (by rfl)) (by intro _;rfl))) (@O0 _ _ _ _ _ _ _ (@j6 _ _ _ _ _ _ _ _ as1 (pv 2) (@h8 _ _ _ _) (j7 _)) (@S1 _ _ _ _ (@j6 _ _ _ _ _ _ _ _ bh8 (pv 2) (@o8 _ _ _ _ _ B.len (@e8 _ _ _ (pv 3) (by rfl)) (by rfl) (by rfl)) (j7 _))))).pt (@g6 _ _ _ (@ae8 _ _ _ _ _ _ _ _ _ ab1 rfl zpx (@G3 _ _ _ _) (by rfl) (by rfl) (by decide))) (@o7 _)) (@an4 _ _)),?_⟩
   try dsimp only[t6,Cx.nox,Cx.wish]
   rcases h with ⟨no,q⟩|⟨a,p,rfl,tp,hm,q⟩|⟨a,p,n,rfl,rfl,tp,n1,h⟩
   · exact ⟨_,rfl,_,rfl,.inr ⟨v,m,rfl,.inl ⟨no,q⟩⟩⟩
   · exact ⟨_,rfl,_,rfl,.inr ⟨_,m,rfl,.inr (.inl ⟨a,p,rfl,tp,hm,q⟩)⟩⟩
   rcases h with ⟨big,q⟩|⟨few,hk,q⟩
   · exact ⟨_,rfl,_,rfl,.inr ⟨_,_,rfl,.inr (.inr ⟨a,p,n,rfl,rfl,tp,n1,big,q⟩)⟩⟩
   refine ⟨_,rfl,_,rfl,.inl ⟨a,p,n,rfl,tp,n1,few,fun o bs ts H3 ho h3o rows all bnd bfr ob kp=> ?_⟩⟩;refine ⟨_,rfl,.int k,_,true,false,rfl,.int k,X3 K "int",X4 K,true,rfl,y7 ?_⟩;refine ⟨_,rfl,_,_,rfl,rfl,_,rfl,?_⟩
   by_cases c:k < 0
   · rw[decide_eq_true c];exact J8 (J8 (q H3 kp))
   · rw[decide_eq_false c];refine y7 ⟨_,rfl,_,rfl,o,_,rfl,.inl (g9.of h3o),_,_,rfl,rfl,_,rfl,?_⟩
     have e:((bs.map V.ref).length:Int)<=k:=by
       rw[ed2,rows.1,all.len];omega
     rw[decide_eq_true e];exact J8 (q H3 kp)
def ag3 (K:PySem.W.Frag):Sp:=fun vs H Q _=>∃v m,vs=[v,.int m]/\((E3 K H v/\∀H',c6 H H'->Q (.str "NoTurn") H')\/(∃a p,v= .ref a/\x9 H a p/\m < 1/\∀H',c6 H H'->Q (.str "NoNumber") H')\/
 (∃(a:Addr) (p:List Int) (k:Nat),v= .ref a/\m=(k:Int)/\x9 H a p/\1<=k/\2000 < K5 p k/\∀H',c6 H H'->Q (.str "TooMany") H')\/
 (∃(a:Addr) (p:List Int) (k:Nat),v= .ref a/\m=(k:Int)/\x9 H a p/\1<=k/\K5 p k<=2000/\∀(o:Addr) (bs:List Addr) (H':Hp),H' o=some (.lst (bs.map V.ref))->Kp H H'->Q (.ref o) H'))
theorem Y9:n5 ["p","m","found","caught","e"] ["p","m"] (i8 az3):=by rfl'
theorem cn8 {f:Addr}{fd:FuncData}(F:B6 K "_law_all" "_law_all" az3 f fd)(zqy:O2 P w K mg base "all_roots" 44 ["p","m"] (fun vs H Q E=>ar7 vs H Q E\/(ba8 K zzx zzz zzy) vs H Q E))(ztx:o4 P w K mg base "_law_word" 1 ["caught"] (az7 zzx zyy zy zzz zyz zzy zyx zx zxz zxy))(ER:aq3 K mg zxx [("NoTurn",zzx),("NoFit",zyy),("NoRounds",zy),("NoNumber",zzz),("NoRoot",zyz),("TooMany",zzy),("NoKind",zyx),("NoText",zx),("NoName",zxz),("NoRow",zxy)]):m9 P w K mg base E2 45 f fd ["p","m"] (ag3 K):=by
 refine F.ok Y9 (fun vs H Q E h=> ?_) (fun cdv A outer s H vs Q E hr h=> ?_)
 · obtain ⟨v,m,rfl,h⟩:=h;rfl
 · obtain ⟨v,m,rfl,h⟩:=h;have zpy:l6 44 _:=hr.mono (by decide);have znz:l6 1 _:=hr.mono (by decide);refine ⟨_,@c8 _ _ _ _ _ (@i4 _ _ (2) _ _ _ _ Y9.nd rfl (Or.inl rfl) (@Z4 _ _ _) (by rfl) (by trivial)) (@c8 _ _ _ _ _ (@i4 _ _ (3) _ _ _ _ Y9.nd rfl (Or.inl rfl) (@Z4 _ _ _) (by rfl) (by trivial)) (@c8 _ _ _ _ _ (@bz4 _ _ _ _ _ (4) _ _ _ _ _ _ _ (@bz3 _ _ _ _ _ _ _ _ _ _ (2) _ _ _ zqy zpy Y9.nd rfl (Or.inl rfl) (@e7 _ _ _ _ _ (pv 0) (@e8 _ _ _ (pv 1) (by rfl)) (by rfl)) (by rfl) (by decide) (by rfl) (by rfl) (by rfl) (by trivial)) ER.top Y9.nd rfl rfl (fun _=>(@g6 _ _ _ (@i4 _ _ (3) _ _ _ _ Y9.nd rfl (Or.inl rfl) (pv 4) (by rfl) (by trivial)))) (by rfl) (by rfl) (by rfl) (by rfl) (by decide) (by trivial)) (@c8 _ _ _ _ _ (@y8 _ _ _ _ _ _ _ _ (@j6 _ _ _ _ _ _ _ _ bw5 (pv 3) (@Z4 _ _ _) (j7 _)) (@g6 _ _ _ (@j9 _ _ _ _ (pv 2))) (@o7 _)) (@g6 _ _ _ (@j9 _ _ _ _ (@i7 _ _ _ _ _ _ _ _ _ _ ztx znz (@e8 _ _ _ (pv 3) (by rfl)) (by rfl) (by decide) (by rfl) (by rfl))))))),?_⟩;refine cn1 ?_;intros
   try dsimp only[t6,Cx.nox,Cx.wish]
   rcases h with ⟨no,k⟩|⟨a,p,rfl,tp,hm,k⟩|⟨a,p,n,rfl,rfl,tp,n1,big,k⟩|⟨a,p,n,rfl,rfl,tp,n1,few,k⟩
   · refine ⟨_,rfl,_,rfl,.inr ⟨v,m,rfl,.inl ⟨no,fun H1 s1=>⟨zzx,rfl,ER.exm ("NoTurn",zzx) (by simp),fun a ha=> ?_⟩⟩⟩⟩;refine ⟨_,rfl,?_⟩;refine ⟨_,rfl,rfl,_,rfl,?_⟩;refine y7 ?_;exact ⟨_,rfl,a,"NoTurn",zzx,rfl,c7,by simp,fun H' s=>k H' ((s1.trans (c6.upd_new ha)).trans s)⟩
   · refine ⟨_,rfl,_,rfl,.inr ⟨.ref a,m,rfl,.inr (.inl ⟨a,p,rfl,tp,hm,fun H1 s1=>⟨zzz,rfl,ER.exm ("NoNumber",zzz) (by simp),fun a ha=> ?_⟩⟩)⟩⟩;refine ⟨_,rfl,?_⟩;refine ⟨_,rfl,rfl,_,rfl,?_⟩;refine y7 ?_;exact ⟨_,rfl,a,"NoNumber",zzz,rfl,c7,by simp,fun H' s=>k H' ((s1.trans (c6.upd_new ha)).trans s)⟩
   · refine ⟨_,rfl,_,rfl,.inr ⟨.ref a,_,rfl,.inr (.inr ⟨a,p,n,rfl,rfl,tp,n1,big,fun H1 s1=>⟨zzy,rfl,ER.exm ("TooMany",zzy) (by simp),fun a ha=> ?_⟩⟩)⟩⟩;refine ⟨_,rfl,?_⟩;refine ⟨_,rfl,rfl,_,rfl,?_⟩;refine y7 ?_;exact ⟨_,rfl,a,"TooMany",zzy,rfl,c7,by simp,fun H' s=>k H' ((s1.trans (c6.upd_new ha)).trans s)⟩
   · refine ⟨_,rfl,_,rfl,.inl ⟨a,p,n,rfl,tp,n1,few,fun o bs ts H3 ho h3o rows all bnd bfr ob kp=> ?_⟩⟩;refine ⟨_,rfl,rfl,_,rfl,?_⟩;exact J8 ⟨_,rfl,k o bs H3 h3o kp⟩
def ac1 (K:PySem.W.Frag):Sp:=fun vs H Q _=>∃v m k,vs=[v,.int m,.int k]/\((E3 K H v/\∀H',c6 H H'->Q (.str "NoTurn") H')\/(∃a p,v= .ref a/\x9 H a p/\m < 1/\∀H',c6 H H'->Q (.str "NoNumber") H')\/
 (∃(a:Addr) (p:List Int) (n:Nat),v= .ref a/\m=(n:Int)/\x9 H a p/\1<=n/\((2000 < K5 p n/\∀H',c6 H H'->Q (.str "TooMany") H')\/(K5 p n<=2000/\(k < 0\/(K5 p n:Int)<=k)/\∀H',Kp H H'->Q (.str "NoNumber") H'))))
theorem Z0:n5 ["p","m","k","found","caught","e"] ["p","m","k"] (i8 az4):=by rfl'
theorem cn9 {f:Addr}{fd:FuncData}(F:B6 K "_law_nth" "_law_nth" az4 f fd)(c_nth_root:O2 P w K mg base "nth_root" 45 ["p","m","k"] (ce5 K zzx zzz zzy))(ztx:o4 P w K mg base "_law_word" 1 ["caught"] (az7 zzx zyy zy zzz zyz zzy zyx zx zxz zxy))(ER:aq3 K mg zxx [("NoTurn",zzx),("NoFit",zyy),("NoRounds",zy),("NoNumber",zzz),("NoRoot",zyz),("TooMany",zzy),("NoKind",zyx),("NoText",zx),("NoName",zxz),("NoRow",zxy)]):m9 P w K mg base E2 46 f fd ["p","m","k"] (ac1 K):=by
 refine F.ok Z0 (fun vs H Q E h=> ?_) (fun cdv A outer s H vs Q E hr h=> ?_)
 · obtain ⟨v,m,k,rfl,h⟩:=h;rfl
 · obtain ⟨v,m,k,rfl,h⟩:=h;have yyz:l6 45 _:=hr.mono (by decide);have znz:l6 1 _:=hr.mono (by decide);refine ⟨_,@c8 _ _ _ _ _ (@i4 _ _ (3) _ _ _ _ Z0.nd rfl (Or.inl rfl) (@Z4 _ _ _) (by rfl) (by trivial)) (@c8 _ _ _ _ _ (@i4 _ _ (4) _ _ _ _ Z0.nd rfl (Or.inl rfl) (@Z4 _ _ _) (by rfl) (by trivial)) (@c8 _ _ _ _ _ (@bz4 _ _ _ _ _ (5) _ _ _ _ _ _ _ (@bz3 _ _ _ _ _ _ _ _ _ _ (3) _ _ _ c_nth_root yyz Z0.nd rfl (Or.inl rfl) (@e7 _ _ _ _ _ (pv 0) (@e7 _ _ _ _ _ (pv 1) (@e8 _ _ _ (pv 2) (by rfl)) (by rfl)) (by rfl)) (by rfl) (by decide) (by rfl) (by rfl) (by rfl) (by trivial)) ER.top Z0.nd rfl rfl (fun _=>(@g6 _ _ _ (@i4 _ _ (4) _ _ _ _ Z0.nd rfl (Or.inl rfl) (pv 5) (by rfl) (by trivial)))) (by rfl) (by rfl) (by rfl) (by rfl) (by decide) (by trivial)) (@c8 _ _ _ _ _ (@y8 _ _ _ _ _ _ _ _ (@j6 _ _ _ _ _ _ _ _ bw5 (pv 4) (@Z4 _ _ _) (j7 _)) (@g6 _ _ _ (@j9 _ _ _ _ (pv 3))) (@o7 _)) (@g6 _ _ _ (@j9 _ _ _ _ (@i7 _ _ _ _ _ _ _ _ _ _ ztx znz (@e8 _ _ _ (pv 4) (by rfl)) (by rfl) (by decide) (by rfl) (by rfl))))))),?_⟩;refine cn1 ?_;intros
   try dsimp only[t6,Cx.nox,Cx.wish]
   rcases h with ⟨no,q⟩|⟨a,p,rfl,tp,hm,q⟩|⟨a,p,n,rfl,rfl,tp,n1,h⟩
   · refine ⟨_,rfl,_,rfl,_,rfl,⟨v,m,k,rfl,.inl ⟨no,fun H1 s1=>⟨zzx,rfl,ER.exm ("NoTurn",zzx) (by simp),fun a ha=> ?_⟩⟩⟩⟩;refine ⟨_,rfl,?_⟩;refine ⟨_,rfl,rfl,_,rfl,?_⟩;refine y7 ?_;exact ⟨_,rfl,a,"NoTurn",zzx,rfl,c7,by simp,fun H' s=>q H' ((s1.trans (c6.upd_new ha)).trans s)⟩
   · refine ⟨_,rfl,_,rfl,_,rfl,⟨_,m,k,rfl,.inr (.inl ⟨a,p,rfl,tp,hm,fun H1 s1=>⟨zzz,rfl,ER.exm ("NoNumber",zzz) (by simp),fun a ha=> ?_⟩⟩)⟩⟩;refine ⟨_,rfl,?_⟩;refine ⟨_,rfl,rfl,_,rfl,?_⟩;refine y7 ?_;exact ⟨_,rfl,a,"NoNumber",zzz,rfl,c7,by simp,fun H' s=>q H' ((s1.trans (c6.upd_new ha)).trans s)⟩
   rcases h with ⟨big,q⟩|⟨few,hk,q⟩
   · refine ⟨_,rfl,_,rfl,_,rfl,⟨_,_,k,rfl,.inr (.inr ⟨a,p,n,rfl,rfl,tp,n1,.inl ⟨big,fun H1 s1=>⟨zzy,rfl,ER.exm ("TooMany",zzy) (by simp),fun a ha=> ?_⟩⟩⟩)⟩⟩;refine ⟨_,rfl,?_⟩;refine ⟨_,rfl,rfl,_,rfl,?_⟩;refine y7 ?_;exact ⟨_,rfl,a,"TooMany",zzy,rfl,c7,by simp,fun H' s=>q H' ((s1.trans (c6.upd_new ha)).trans s)⟩
   · refine ⟨_,rfl,_,rfl,_,rfl,⟨_,_,k,rfl,.inr (.inr ⟨a,p,n,rfl,rfl,tp,n1,.inr ⟨few,hk,fun H1 kp=>⟨zzz,rfl,ER.exm ("NoNumber",zzz) (by simp),fun a ha=> ?_⟩⟩⟩)⟩⟩;refine ⟨_,rfl,?_⟩;refine ⟨_,rfl,rfl,_,rfl,?_⟩;refine y7 ?_;exact ⟨_,rfl,a,"NoNumber",zzz,rfl,c7,by simp,fun H' s=>q H' ((kp.trans (Kp.of (c6.upd_new ha))).trans (Kp.of s))⟩
def ag4 (K:PySem.W.Frag):Sp:=fun vs H Q _=>∃v m u,vs=[v,.int m,u]/\((E3 K H v/\∀H',c6 H H'->Q (.str "NoTurn") H')\/
 (∃a p,v= .ref a/\x9 H a p/\((E3 K H u/\∀H',c6 H H'->Q (.str "NoTurn") H')\/∃b r,u= .ref b/\x9 H b r/\((m < 1/\∀H',c6 H H'->Q (.str "NoNumber") H')\/
   (∃k:Nat,m=(k:Int)/\1<=k/\((p.length≠r.length/\∀H',c6 H H'->Q (.str "NoFit") H')\/(p.length=r.length/\2000 < K5 p k/\∀H',c6 H H'->Q (.str "TooMany") H')\/
     (p.length=r.length/\K5 p k<=2000/\¬ac8 r (k:Int) p/\∀H',Kp H H'->Q (.str "NoRoot") H')))))))
theorem Q5:n5 ["p","m","r","found","caught","e"] ["p","m","r"] (i8 am2):=by rfl'
theorem bv6 {f:Addr}{fd:FuncData}(F:B6 K "_law_number" "_law_number" am2 f fd)(zc:O2 P w K mg base "number_of_root" 45 ["p","m","r"] (ce4 K zzx zzz zyy zzy zyz))(ztx:o4 P w K mg base "_law_word" 1 ["caught"] (az7 zzx zyy zy zzz zyz zzy zyx zx zxz zxy))(ER:aq3 K mg zxx [("NoTurn",zzx),("NoFit",zyy),("NoRounds",zy),("NoNumber",zzz),("NoRoot",zyz),("TooMany",zzy),("NoKind",zyx),("NoText",zx),("NoName",zxz),("NoRow",zxy)]):m9 P w K mg base E2 46 f fd ["p","m","r"] (ag4 K):=by
 refine F.ok Q5 (fun vs H Q E h=> ?_) (fun cdv A outer s H vs Q E hr h=> ?_)
 · obtain ⟨v,m,u,rfl,h⟩:=h;rfl
 · obtain ⟨v,m,u,rfl,h⟩:=h;have zez:l6 45 _:=hr.mono (by decide);have znz:l6 1 _:=hr.mono (by decide);refine ⟨_,@c8 _ _ _ _ _ (@i4 _ _ (3) _ _ _ _ Q5.nd rfl (Or.inl rfl) (@Z4 _ _ _) (by rfl) (by trivial)) (@c8 _ _ _ _ _ (@i4 _ _ (4) _ _ _ _ Q5.nd rfl (Or.inl rfl) (@Z4 _ _ _) (by rfl) (by trivial)) (@c8 _ _ _ _ _ (@bz4 _ _ _ _ _ (5) _ _ _ _ _ _ _ (@bz3 _ _ _ _ _ _ _ _ _ _ (3) _ _ _ zc zez Q5.nd rfl (Or.inl rfl) (@e7 _ _ _ _ _ (pv 0) (@e7 _ _ _ _ _ (pv 1) (@e8 _ _ _ (pv 2) (by rfl)) (by rfl)) (by rfl)) (by rfl) (by decide) (by rfl) (by rfl) (by rfl) (by trivial)) ER.top Q5.nd rfl rfl (fun _=>(@g6 _ _ _ (@i4 _ _ (4) _ _ _ _ Q5.nd rfl (Or.inl rfl) (pv 5) (by rfl) (by trivial)))) (by rfl) (by rfl) (by rfl) (by rfl) (by decide) (by trivial)) (@c8 _ _ _ _ _ (@y8 _ _ _ _ _ _ _ _ (@j6 _ _ _ _ _ _ _ _ bw5 (pv 4) (@Z4 _ _ _) (j7 _)) (@g6 _ _ _ (@j9 _ _ _ _ (pv 3))) (@o7 _)) (@g6 _ _ _ (@j9 _ _ _ _ (@i7 _ _ _ _ _ _ _ _ _ _ ztx znz (@e8 _ _ _ (pv 4) (by rfl)) (by rfl) (by decide) (by rfl) (by rfl))))))),?_⟩;refine cn1 ?_;intros
   try dsimp only[t6,Cx.nox,Cx.wish]
   rcases h with ⟨no,q⟩|⟨a,p,rfl,tp,h⟩
   · refine ⟨_,rfl,_,rfl,_,rfl,⟨_,_,_,rfl,.inl ⟨no,fun H1 s1=>⟨zzx,rfl,ER.exm ("NoTurn",zzx) (by simp),fun a ha=> ?_⟩⟩⟩⟩;refine ⟨_,rfl,?_⟩;refine ⟨_,rfl,rfl,_,rfl,?_⟩;refine y7 ?_;exact ⟨_,rfl,a,"NoTurn",zzx,rfl,c7,by simp,fun H' s=>q H' ((s1.trans (c6.upd_new ha)).trans s)⟩
   rcases h with ⟨no,q⟩|⟨b,r,rfl,tr,h⟩
   · refine ⟨_,rfl,_,rfl,_,rfl,⟨_,_,_,rfl,.inr ⟨a,p,rfl,tp,.inl ⟨no,fun H1 s1=>⟨zzx,rfl,ER.exm ("NoTurn",zzx) (by simp),fun a ha=> ?_⟩⟩⟩⟩⟩;refine ⟨_,rfl,?_⟩;refine ⟨_,rfl,rfl,_,rfl,?_⟩;refine y7 ?_;exact ⟨_,rfl,a,"NoTurn",zzx,rfl,c7,by simp,fun H' s=>q H' ((s1.trans (c6.upd_new ha)).trans s)⟩
   rcases h with ⟨hm,q⟩|⟨n,rfl,n1,h⟩
   · refine ⟨_,rfl,_,rfl,_,rfl,⟨_,_,_,rfl,.inr ⟨a,p,rfl,tp,.inr ⟨b,r,rfl,tr,.inl ⟨hm,fun H1 s1=>⟨zzz,rfl,ER.exm ("NoNumber",zzz) (by simp),fun a ha=> ?_⟩⟩⟩⟩⟩⟩;refine ⟨_,rfl,?_⟩;refine ⟨_,rfl,rfl,_,rfl,?_⟩;refine y7 ?_;exact ⟨_,rfl,a,"NoNumber",zzz,rfl,c7,by simp,fun H' s=>q H' ((s1.trans (c6.upd_new ha)).trans s)⟩
   rcases h with ⟨ne,q⟩|⟨e,big,q⟩|⟨e,few,nr,q⟩
   · refine ⟨_,rfl,_,rfl,_,rfl,⟨_,_,_,rfl,.inr ⟨a,p,rfl,tp,.inr ⟨b,r,rfl,tr,.inr ⟨n,rfl,n1,.inl ⟨ne,fun H1 s1=>⟨zyy,rfl,ER.exm ("NoFit",zyy) (by simp),fun a ha=> ?_⟩⟩⟩⟩⟩⟩⟩;refine ⟨_,rfl,?_⟩;refine ⟨_,rfl,rfl,_,rfl,?_⟩;refine y7 ?_;exact ⟨_,rfl,a,"NoFit",zyy,rfl,c7,by simp,fun H' s=>q H' ((s1.trans (c6.upd_new ha)).trans s)⟩
   · refine ⟨_,rfl,_,rfl,_,rfl,⟨_,_,_,rfl,.inr ⟨a,p,rfl,tp,.inr ⟨b,r,rfl,tr,.inr ⟨n,rfl,n1,.inr (.inl ⟨e,big,fun H1 s1=>⟨zzy,rfl,ER.exm ("TooMany",zzy) (by simp),fun a ha=> ?_⟩⟩)⟩⟩⟩⟩⟩;refine ⟨_,rfl,?_⟩;refine ⟨_,rfl,rfl,_,rfl,?_⟩;refine y7 ?_;exact ⟨_,rfl,a,"TooMany",zzy,rfl,c7,by simp,fun H' s=>q H' ((s1.trans (c6.upd_new ha)).trans s)⟩
   · refine ⟨_,rfl,_,rfl,_,rfl,⟨_,_,_,rfl,.inr ⟨a,p,rfl,tp,.inr ⟨b,r,rfl,tr,.inr ⟨n,rfl,n1,.inr (.inr ⟨e,few,nr,fun H1 s1=>⟨zyz,rfl,ER.exm ("NoRoot",zyz) (by simp),fun a ha=> ?_⟩⟩)⟩⟩⟩⟩⟩;refine ⟨_,rfl,?_⟩;refine ⟨_,rfl,rfl,_,rfl,?_⟩;refine y7 ?_;exact ⟨_,rfl,a,"NoRoot",zyz,rfl,c7,by simp,fun H' s=>q H' ((s1.trans (Kp.of (c6.upd_new ha))).trans (Kp.of s))⟩
end
end My
namespace My
open PySem L2 Mth
section
variable {P:Program} {w:World} {K:PySem.W.Frag} {mg:Str->Option Value} {base:Heap} {zxx zzx zyy zy zzz zyz zzy zyx zx zxz zxy:Addr}
def ce7 (K:PySem.W.Frag):Sp:=fun vs H Q _=>∃(a bd:Addr) (p:List Int) (m:Nat) (ns:List Int),vs=[.ref a,.int (m:Int),.ref bd]/\x9 H a p/\p.length<=30/\1<=m/\H bd=some (.lst (ns.map V.int))/\(∀n∈ns,n < 1)/\ns.length<=10/\∀H',c6 H H'->Q (.bl true) H'
theorem L8:n5 ["p","m","bads","more","bad","words"] ["p","m","bads"] (i8 W5):=by rfl'
theorem ax1 {f:Addr}{fd:FuncData}(F:B6 K "_law_numbers_right" "_law_numbers_right" W5 f fd)(B:Bl mg)(zwy:o4 P w K mg base "_law_number" 46 ["p","m","r"] (ag4 K))(ztz:o4 P w K mg base "_law_nth" 46 ["p","m","k"] (ac1 K))(zsx:o4 P w K mg base "_law_all" 45 ["p","m"] (ag3 K)):m9 P w K mg base E2 47 f fd ["p","m","bads"] (ce7 K):=by
 refine F.ok L8 (fun vs H Q E h=> ?_) (fun cdv A outer s H vs Q E hr h=> ?_)
 · obtain ⟨a,bd,p,m,ns,rfl,tp,lp,m1,hb,neg,ln,q⟩:=h;rfl
 · obtain ⟨a,bd,p,m,ns,rfl,tp,lp,m1,hb,neg,ln,q⟩:=h;have zvy:l6 46 _:=hr.mono (by decide);have zq:l6 46 _:=hr.mono (by decide);have zly:l6 45 _:=hr.mono (by decide);have hu:=Q8 hr;refine ⟨_,@c8 _ _ _ _ _ (@i4 _ _ (3) _ _ _ _ L8.nd rfl (Or.inl rfl) (@V2 _ _ _ _ _ _ _ rfl B.list B.range (@e8 _ _ _ (@i6 _ _ _ _ _ _ _ _ C0 (@o8 _ _ _ _ _ B.len (@e8 _ _ _ (pv 0) (by rfl)) (by rfl) (by rfl)) (@h8 _ _ _ _)) (by rfl)) (by rfl) (by rfl) (by rfl) (by rfl)) (by rfl) (by trivial)) (@c8 _ _ _ _ _ (@q0 _ _ _ _ _ _ _ _ PassesOwn.never rfl (@B8 _ _ _ _ (pv 2)) (@i9 _ _ (4) _ L8.nd rfl (Or.inl rfl) (by trivial)) (@c8 _ _ _ _ _ (@i4 _ _ (5) _ _ _ _ L8.nd rfl (Or.inl rfl) (@o5 _ _ _ _ (@e7 _ _ _ _ _ (@i7 _ _ _ _ _ _ _ _ _ _ zsx zly (@e7 _ _ _ _ _ (pv 0) (@e8 _ _ _ (pv 4) (by rfl)) (by rfl)) (by rfl) (by decide) (by rfl) (by rfl)) (@e7 _ _ _ _ _ (@i7 _ _ _ _ _ _ _ _ _ _ ztz zq (@e7 _ _ _ _ _ (pv 0) (@e7 _ _ _ _ _ (pv 4) (@e8 _ _ _ (@h8 _ _ _ _) (by rfl)) (by rfl)) (by rfl)) (by rfl) (by decide) (by rfl) (by rfl)) (@e7 _ _ _ _ _ (@i7 _ _ _ _ _ _ _ _ _ _ zwy zvy (@e7 _ _ _ _ _ (pv 0) (@e7 _ _ _ _ _ (pv 4) (@e8 _ _ _ (pv 3) (by rfl)) (by rfl)) (by rfl)) (by rfl) (by decide) (by rfl) (by rfl)) (@e8 _ _ _ (@i7 _ _ _ _ _ _ _ _ _ _ zwy zvy (@e7 _ _ _ _ _ (pv 0) (@e7 _ _ _ _ _ (pv 4) (@e8 _ _ _ (@ab0 _ _ _ _ _ B.list (@e8 _ _ _ (pv 0) (by rfl)) (by rfl) (by rfl)) (by rfl)) (by rfl)) (by rfl)) (by rfl) (by decide) (by rfl) (by rfl)) (by rfl)) (by rfl)) (by rfl)) (by rfl))) (by rfl) (by trivial)) (@g6 _ _ _ (@y8 _ _ _ _ _ _ _ _ (@j6 _ _ _ _ _ _ _ _ (ac6 0 hu) (pv 5) (@i6 _ _ _ _ _ _ _ _ ay2 (@o5 _ _ _ _ (@e8 _ _ _ (@G3 _ _ _ _) (by rfl))) (@h8 _ _ _ _)) (j7 _)) (@g6 _ _ _ (@j9 _ _ _ _ (@K2 _ _ _ _))) (@o7 _)))) (by intro _;rfl)) (@c8 _ _ _ _ _ (@i4 _ _ (5) _ _ _ _ L8.nd rfl (Or.inl rfl) (@o5 _ _ _ _ (@e7 _ _ _ _ _ (@i7 _ _ _ _ _ _ _ _ _ _ zwy zvy (@e7 _ _ _ _ _ (pv 0) (@e7 _ _ _ _ _ (pv 1) (@e8 _ _ _ (pv 3) (by rfl)) (by rfl)) (by rfl)) (by rfl) (by decide) (by rfl) (by rfl)) (@e8 _ _ _ (@i7 _ _ _ _ _ _ _ _ _ _ zwy zvy (@e7 _ _ _ _ _ (pv 3) (@e7 _ _ _ _ _ (pv 1) (@e8 _ _ _ (pv 0) (by rfl)) (by rfl)) (by rfl)) (by rfl) (by decide) (by rfl) (by rfl)) (by rfl)) (by rfl))) (by rfl) (by trivial)) (@g6 _ _ _ (@j9 _ _ _ _ (@co7 _ _ _ _ _ _ _ (@Y2 _ _ _ _ _ _ _ _ (bx6 0 hu) (pv 5) (@o5 _ _ _ _ (@e7 _ _ _ _ _ (@G3 _ _ _ _) (@e8 _ _ _ (@G3 _ _ _ _) (by rfl)) (by rfl))) (j7 _)) (@co6 _ _ _ _ _ (@Y2 _ _ _ _ _ _ _ _ (bx6 0 hu) (pv 3) (@V2 _ _ _ _ _ _ _ rfl B.list B.range (@e8 _ _ _ (@i6 _ _ _ _ _ _ _ _ C0 (@o8 _ _ _ _ _ B.len (@e8 _ _ _ (pv 0) (by rfl)) (by rfl) (by rfl)) (@h8 _ _ _ _)) (by rfl)) (by rfl) (by rfl) (by rfl) (by rfl)) (j7 _)))))))),?_⟩;refine av9 ?_;intros
   try dsimp only[t6,Cx.nox,Cx.wish]
   refine ⟨_,rfl,a,_,rfl,.inl (g9.of tp.1),_,_,rfl,rfl,((p.length+1:Nat):Int),by rw[ed2];rfl,fun r hr=> ?_⟩;have s1:c6 H (c9 H r (.rng 0 ((p.length+1:Nat):Int))):=c6.upd_new hr;have h1r:(c9 H r (.rng 0 ((p.length+1:Nat):Int))) r=some (.rng 0 ((p.length+1:Nat):Int)):=c7;generalize (c9 H r (.rng 0 ((p.length+1:Nat):Int)))=H1 at s1 h1r ⊢;refine ⟨r,0,((p.length+1:Nat):Int),rfl,h1r,⟨by decide,by decide,by omega,by omega⟩,by omega,fun mo hmo=> ?_⟩;rw[show (((p.length+1:Nat):Int) - 0).toNat=p.length+1 by omega];have s2:c6 H1 (c9 H1 mo (.lst ((L2.P0 0 (p.length+1)).map V.int))):=c6.upd_new hmo;have h2m:(c9 H1 mo (.lst ((L2.P0 0 (p.length+1)).map V.int))) mo=some (.lst ((L2.P0 0 (p.length+1)).map V.int)):=c7;generalize (c9 H1 mo (.lst ((L2.P0 0 (p.length+1)).map V.int)))=H2 at s2 h2m ⊢;have s02:=s1.trans s2;have itT:E6 (L2.P0 0 (p.length+1)):=⟨aj5 _,fun x hx=>(V1.mp hx).1,fun x hx=>by rw[J9];exact (V1.mp hx).2⟩
   have tm:∀{H'},c6 H2 H'->x9 H' mo (L2.P0 0 (p.length+1)):=fun s=>⟨s _ _ h2m,itT,by rw[J9];omega⟩
   have ta:∀{H'},c6 H2 H'->x9 H' a p:=fun s=>⟨s _ _ (s02 _ _ tp.1),tp.2⟩
   refine ⟨_,rfl,bd,rfl,⟨_,g9.of (s02 _ _ hb)⟩,G4 (K:=K) (a:=bd) (xs:=ns.map V.int) (fun j σ H3=>∃v4 v5:Option V,σ=[some (.ref a),some (.int (m:Int)),some (.ref bd),some (.ref mo),v4,v5]/\c6 H2 H3)
     ⟨none,none,rfl,c6.refl _⟩ (fun j σ H3 _ zz=>by obtain ⟨_,_,_,s⟩:=zz;exact g9.of (s _ _ (s02 _ _ hb))) ?_ ?_⟩
   · rintro j y σ H3 hj ⟨v4,v5,rfl,s3⟩;obtain ⟨n,hn,rfl⟩:=K7 hj;have n0:=neg n (ee1 hn);refine ⟨_,rfl,_,rfl,.ref a,n,rfl,.inr (.inl ⟨a,p,rfl,ta s3,n0,fun H4 s4=> ?_⟩)⟩;have s24:=s3.trans s4;refine ⟨_,rfl,_,rfl,.ref a,n,0,rfl,.inr (.inl ⟨a,p,rfl,ta s24,n0,fun H5 s5=> ?_⟩)⟩;have s25:=s24.trans s5;refine ⟨_,rfl,_,rfl,_,rfl,.ref a,n,.ref mo,rfl,.inr ⟨a,p,rfl,ta s25,.inr ⟨mo,_,rfl,tm s25,.inl ⟨n0,fun H6 s6=> ?_⟩⟩⟩⟩;have s26:=s25.trans s6;refine ⟨_,rfl,_,rfl,_,rfl,a,_,rfl,.inl (g9.of (ta s26).1),fun c hc=> ?_⟩;have s7:c6 H6 (c9 H6 c (.lst (p.map V.int))):=c6.upd_new hc;have h7c:(c9 H6 c (.lst (p.map V.int))) c=some (.lst (p.map V.int)):=c7;generalize (c9 H6 c (.lst (p.map V.int)))=H7 at s7 h7c ⊢;have s27:=s26.trans s7;refine ⟨.ref a,n,.ref c,rfl,.inr ⟨a,p,rfl,ta s27,.inr ⟨c,p,rfl,⟨h7c,tp.2⟩,.inl ⟨n0,fun H8 s8=> ?_⟩⟩⟩⟩;have s28:=s27.trans s8;refine ⟨(show 4<=sizeLine by decide),fun ww hww=> ?_⟩;have s9:c6 H8 (c9 H8 ww (.lst [.str "NoNumber",.str "NoNumber",.str "NoNumber",.str "NoNumber"])):=c6.upd_new hww;have h9w:(c9 H8 ww (.lst [.str "NoNumber",.str "NoNumber",.str "NoNumber",.str "NoNumber"])) ww=some (.lst [.str "NoNumber",.str "NoNumber",.str "NoNumber",.str "NoNumber"]):=c7;generalize (c9 H8 ww (.lst [.str "NoNumber",.str "NoNumber",.str "NoNumber",.str "NoNumber"]))=H9 at s9 h9w ⊢;refine ⟨_,rfl,(show 1<=sizeLine by decide),fun e1 he1=> ?_⟩;refine ⟨e1,4,_,rfl,rfl,c7,by decide,by decide,(show 4<=sizeLine by decide),fun e2 he2=> ?_⟩;have sw:=(c6.upd_new (o:= .lst [.str "NoNumber"]) he1).trans (c6.upd_new (o:= .lst [.str "NoNumber",.str "NoNumber",.str "NoNumber",.str "NoNumber"]) he2);refine ⟨ww,e2,[.str "NoNumber",.str "NoNumber",.str "NoNumber",.str "NoNumber"],[.str "NoNumber",.str "NoNumber",.str "NoNumber",.str "NoNumber"],true,rfl,rfl,g9.of (sw _ _ h9w),g9.of c7,aw4 K _ _ _ rfl (by decide),_,rfl,?_⟩;exact y7 ⟨_,_,rfl,s28.trans (s9.trans sw)⟩
   · rintro σ H3 ⟨v4,v5,rfl,s3⟩;have lm:(L2.P0 0 (p.length+1)).length=p.length+1:=J9 ..;refine ⟨_,rfl,_,rfl,_,rfl,.ref a,(m:Int),.ref mo,rfl,.inr ⟨a,p,rfl,ta s3,.inr ⟨mo,_,rfl,tm s3,.inr ⟨m,rfl,m1,.inl ⟨by omega,fun H4 s4=> ?_⟩⟩⟩⟩⟩;have s24:=s3.trans s4;refine ⟨_,rfl,_,rfl,_,rfl,.ref mo,(m:Int),.ref a,rfl,.inr ⟨mo,_,rfl,tm s24,.inr ⟨a,p,rfl,ta s24,.inr ⟨m,rfl,m1,.inl ⟨by omega,fun H5 s5=> ?_⟩⟩⟩⟩⟩;have s25:=s24.trans s5;refine ⟨(show 2<=sizeLine by decide),fun ww hww=> ?_⟩;have s6:c6 H5 (c9 H5 ww (.lst [.str "NoFit",.str "NoFit"])):=c6.upd_new hww;have h6w:(c9 H5 ww (.lst [.str "NoFit",.str "NoFit"])) ww=some (.lst [.str "NoFit",.str "NoFit"]):=c7;generalize (c9 H5 ww (.lst [.str "NoFit",.str "NoFit"]))=H6 at s6 h6w ⊢;refine ⟨_,rfl,(show 2<=sizeLine by decide),fun e2 he2=> ?_⟩;have s7:c6 H6 (c9 H6 e2 (.lst [.str "NoFit",.str "NoFit"])):=c6.upd_new he2;have h7e:(c9 H6 e2 (.lst [.str "NoFit",.str "NoFit"])) e2=some (.lst [.str "NoFit",.str "NoFit"]):=c7;generalize (c9 H6 e2 (.lst [.str "NoFit",.str "NoFit"]))=H7 at s7 h7e ⊢;refine ⟨ww,e2,[.str "NoFit",.str "NoFit"],[.str "NoFit",.str "NoFit"],true,rfl,rfl,g9.of (s7 _ _ h6w),g9.of h7e,aw4 K _ _ _ rfl (by decide),?_⟩;have s27:=(s25.trans s6).trans s7;refine ⟨true,rfl,J8 ⟨_,rfl,_,rfl,a,_,rfl,.inl (g9.of (ta s27).1),_,_,rfl,rfl,((p.length+1:Nat):Int),by rw[ed2];rfl,fun r3 hr3=> ?_⟩⟩;have s8:c6 H7 (c9 H7 r3 (.rng 0 ((p.length+1:Nat):Int))):=c6.upd_new hr3;have h8r:(c9 H7 r3 (.rng 0 ((p.length+1:Nat):Int))) r3=some (.rng 0 ((p.length+1:Nat):Int)):=c7;generalize (c9 H7 r3 (.rng 0 ((p.length+1:Nat):Int)))=H8 at s8 h8r ⊢;refine ⟨r3,0,((p.length+1:Nat):Int),rfl,h8r,⟨by decide,by decide,by omega,by omega⟩,by omega,fun m2 hm2=> ?_⟩;rw[show (((p.length+1:Nat):Int) - 0).toNat=p.length+1 by omega];have s9:c6 H8 (c9 H8 m2 (.lst ((L2.P0 0 (p.length+1)).map V.int))):=c6.upd_new hm2;have h9m:(c9 H8 m2 (.lst ((L2.P0 0 (p.length+1)).map V.int))) m2=some (.lst ((L2.P0 0 (p.length+1)).map V.int)):=c7;generalize (c9 H8 m2 (.lst ((L2.P0 0 (p.length+1)).map V.int)))=H9 at s9 h9m ⊢;have s29:=(s27.trans s8).trans s9;refine ⟨mo,m2,_,_,_,rfl,rfl,g9.of (tm s29).1,g9.of h9m,X2 _ _ _ _ _,?_⟩;rw[decide_eq_true rfl];exact q _ (s02.trans s29)
end
end My
namespace My
open PySem L2 Mth
section
variable {P:Program} {w:World} {K:PySem.W.Frag} {mg:Str->Option Value} {base:Heap} {zxx zzx zyy zy zzz zyz zzy zyx zx zxz zxy:Addr}
def bq2 (K:PySem.W.Frag):Sp:=fun vs H Q _=>∃(g a bd:Addr) (p:List Int) (m:Nat) (ns:List Int),vs=[.ref g,.ref a,.int (m:Int),.ref bd]/\A0 H g/\a≠g/\x9 H a p/\bd≠g/\H bd=some (.lst (ns.map V.int))/\ns.length<=10/\∀H',j5 g H H'->A0 H' g->Q (.bl true) H'
theorem Y1:n5 ["deck","p","m","bads","bad","text"] ["deck","p","m","bads"] (i8 Z3):=by rfl'
theorem R8:(["number","bad"]:List Str).Nodup:=by decide+kernel
theorem bb0 {f:Addr}{fd:FuncData}(F:B6 K "_law_turns_right" "_law_turns_right" Z3 f fd)(B:Bl mg)(zlx:o4 P w K mg base "_law_bad_turns" 3 ["deck","p"] (af9 K 200))(zsx:o4 P w K mg base "_law_all" 45 ["p","m"] (ag3 K))(ztz:o4 P w K mg base "_law_nth" 46 ["p","m","k"] (ac1 K))(zwy:o4 P w K mg base "_law_number" 46 ["p","m","r"] (ag4 K)):m9 P w K mg base E2 47 f fd ["deck","p","m","bads"] (bq2 K):=by
 refine F.ok Y1 (fun vs H Q E h=> ?_) (fun cdv A outer s H vs Q E hr h=> ?_)
 · obtain ⟨g,a,bd,p,m,ns,rfl,hg,nag,tp,nbg,hb,ln,q⟩:=h;rfl
 · obtain ⟨g,a,bd,p,m,ns,rfl,hg,nag,tp,nbg,hb,ln,q⟩:=h;have zcz:l6 3 _:=hr.mono (by decide);have zly:l6 45 _:=hr.mono (by decide);have zq:l6 46 _:=hr.mono (by decide);have zvy:l6 46 _:=hr.mono (by decide);have hu:=Q8 hr;have hug:_+16 < cLine:=eg1 (er5 (by decide:16<=64) _) hr.units;refine ⟨_,@c8 _ _ _ _ _ (@q0 _ _ _ _ _ _ _ _ PassesOwn.never rfl (@B8 _ _ _ _ (@i7 _ _ _ _ _ _ _ _ _ _ zlx zcz (@e7 _ _ _ _ _ (pv 0) (@e8 _ _ _ (pv 1) (by rfl)) (by rfl)) (by rfl) (by decide) (by rfl) (by rfl))) (@i9 _ _ (4) _ Y1.nd rfl (Or.inr rfl) (by trivial)) (@c8 _ _ _ _ _ (@i4 _ _ (5) _ _ _ _ Y1.nd rfl (Or.inl rfl) (@ci5 _ _ _ _ _ hug hr.gd B.repr (@e8 _ _ _ (pv 4) (by rfl)) (by rfl) (by rfl)) (by rfl) (by trivial)) (@c8 _ _ _ _ _ (@y8 _ _ _ _ _ _ _ _ (@j6 _ _ _ _ _ _ _ _ (ac6 0 hu) (@aq0 _ _ _ _ _ _ _ _ _ _ _ (["number","bad"]) (1) ([4]) rfl .of (@B8 _ _ _ _ (@i6 _ _ _ _ _ _ _ _ Q7 (@o5 _ _ _ _ (@e8 _ _ _ (pv 2) (by rfl))) (pv 3))) (fun _ _ _ _ _=>@i9 _ _ (0) _ R8 rfl (Or.inl rfl) (by trivial)) (fun _ _ _ _ _=>@ak9 _ _ _ (@j6 _ _ _ _ _ _ _ _ R9 (@i7 _ _ _ _ _ _ _ _ _ _ zsx zly (@e7 _ _ _ _ _ (pv 1) (@e8 _ _ _ (pv 0) (by rfl)) (by rfl)) (by rfl) (by decide) (by rfl) (by rfl)) (@G3 _ _ _ _) (j7 _))) (fun _ _ _ _ _=>(pv 0)) (by intro _;rfl)) (@o5 _ _ _ _ (@j8 _)) (j7 _)) (@g6 _ _ _ (@j9 _ _ _ _ (@K2 _ _ _ _))) (@o7 _)) (@c8 _ _ _ _ _ (@y8 _ _ _ _ _ _ _ _ (@j6 _ _ _ _ _ _ _ _ (ac6 0 hu) (@aq0 _ _ _ _ _ _ _ _ _ _ _ (["number","bad"]) (1) ([4]) rfl .of (@B8 _ _ _ _ (pv 3)) (fun _ _ _ _ _=>@i9 _ _ (0) _ R8 rfl (Or.inl rfl) (by trivial)) (fun _ _ _ _ _=>@ak9 _ _ _ (@j6 _ _ _ _ _ _ _ _ R9 (@i7 _ _ _ _ _ _ _ _ _ _ ztz zq (@e7 _ _ _ _ _ (pv 1) (@e7 _ _ _ _ _ (pv 0) (@e8 _ _ _ (@h8 _ _ _ _) (by rfl)) (by rfl)) (by rfl)) (by rfl) (by decide) (by rfl) (by rfl)) (@G3 _ _ _ _) (j7 _))) (fun _ _ _ _ _=>(pv 0)) (by intro _;rfl)) (@o5 _ _ _ _ (@j8 _)) (j7 _)) (@g6 _ _ _ (@j9 _ _ _ _ (@K2 _ _ _ _))) (@o7 _)) (@c8 _ _ _ _ _ (@y8 _ _ _ _ _ _ _ _ (@O0 _ _ _ _ _ _ _ (@j6 _ _ _ _ _ _ _ _ R9 (@i7 _ _ _ _ _ _ _ _ _ _ ztz zq (@e7 _ _ _ _ _ (pv 4) (@e7 _ _ _ _ _ (pv 2) (@e8 _ _ _ (@aj2 _ _ _ _ _ _ ac2 (@h8 _ _ _ _)) (by rfl)) (by rfl)) (by rfl)) (by rfl) (by decide) (by rfl) (by rfl)) (@G3 _ _ _ _) (j7 _)) (@S1 _ _ _ _ (@j6 _ _ _ _ _ _ _ _ R9 (@i7 _ _ _ _ _ _ _ _ _ _ zwy zvy (@e7 _ _ _ _ _ (pv 4) (@e7 _ _ _ _ _ (@h8 _ _ _ _) (@e8 _ _ _ (pv 1) (by rfl)) (by rfl)) (by rfl)) (by rfl) (by decide) (by rfl) (by rfl)) (@G3 _ _ _ _) (j7 _)))).pt (@g6 _ _ _ (@j9 _ _ _ _ (@K2 _ _ _ _))) (@o7 _)) (@g6 _ _ _ (@y8 _ _ _ _ _ _ _ _ (@O0 _ _ _ _ _ _ _ (@j6 _ _ _ _ _ _ _ _ R9 (@i7 _ _ _ _ _ _ _ _ _ _ zwy zvy (@e7 _ _ _ _ _ (pv 1) (@e7 _ _ _ _ _ (pv 2) (@e8 _ _ _ (pv 4) (by rfl)) (by rfl)) (by rfl)) (by rfl) (by decide) (by rfl) (by rfl)) (@G3 _ _ _ _) (j7 _)) (@O0 _ _ _ _ _ _ _ (@j6 _ _ _ _ _ _ _ _ R9 (@i7 _ _ _ _ _ _ _ _ _ _ zwy zvy (@e7 _ _ _ _ _ (pv 1) (@e7 _ _ _ _ _ (@h8 _ _ _ _) (@e8 _ _ _ (pv 4) (by rfl)) (by rfl)) (by rfl)) (by rfl) (by decide) (by rfl) (by rfl)) (@G3 _ _ _ _) (j7 _)) (@S1 _ _ _ _ (@j6 _ _ _ _ _ _ _ _ R9 (@ci5 _ _ _ _ _ hug hr.gd B.repr (@e8 _ _ _ (pv 4) (by rfl)) (by rfl) (by rfl)) (pv 5) (j7 _))))).pt (@g6 _ _ _ (@j9 _ _ _ _ (@K2 _ _ _ _))) (@o7 _))))))) (by intro _;rfl)) (@g6 _ _ _ (@j9 _ _ _ _ (@K2 _ _ _ _))),?_⟩
   try dsimp only[t6,Cx.nox,Cx.wish]
   refine ⟨_,rfl,_,rfl,g,a,p,rfl,hg,nag,tp,fun l xs H1 hl k1 D1 h1l lx bads=> ?_⟩;have t1:x9 H1 a p:=⟨k1 _ _ tp.1 nag,tp.2⟩;have h1b:=k1 _ _ hb nbg
   refine ⟨l,rfl,⟨_,g9.of h1l⟩,G4 (K:=K) (a:=l) (xs:=xs) (fun j σ H2=>∃v4 v5:Option V,σ=[some (.ref g),some (.ref a),some (.int (m:Int)),some (.ref bd),v4,v5]/\c6 H1 H2)
     ⟨none,none,rfl,c6.refl H1⟩ (fun j σ H2 _ zz=>by obtain ⟨_,_,_,s⟩:=zz;exact g9.of (s _ _ h1l)) ?_ ?_⟩
   · rintro j v σ H2 hj ⟨v4,v5,rfl,s2⟩;obtain ⟨nt,d,hd⟩:=((bads.keep (cx0 _ _ _)).keep s2) v (ee1 hj);refine ⟨_,rfl,v,d,rfl,hd,?_⟩;refine ⟨_,rfl,(show 1<=sizeLine by decide),fun e he=> ?_⟩;have s3:c6 H2 (c9 H2 e (.lst [V.int (m:Int)])):=c6.upd_new he;have h3e:(c9 H2 e (.lst [V.int (m:Int)])) e=some (.lst [V.int (m:Int)]):=c7;generalize (c9 H2 e (.lst [V.int (m:Int)]))=H3 at s3 h3e ⊢;refine ⟨_,rfl,e,bd,_,_,rfl,rfl,h3e,(s2.trans s3) _ _ h1b,eh1 (m8 (by simp only[ed2,ej7];omega)),fun f hf=> ?_⟩;have ef:[V.int (m:Int)]++ns.map V.int=((m:Int)::ns).map V.int:=rfl;rw[ef];have s4:c6 H3 (c9 H3 f (.lst (((m:Int)::ns).map V.int))):=c6.upd_new hf;have h4f:(c9 H3 f (.lst (((m:Int)::ns).map V.int))) f=some (.lst (((m:Int)::ns).map V.int)):=c7;generalize (c9 H3 f (.lst (((m:Int)::ns).map V.int)))=H4 at s4 h4f ⊢;have s24:=s3.trans s4
     refine ⟨f,rfl,⟨_,g9.of h4f⟩,ah4 (K:=K) (a:=f) (xs:=((m:Int)::ns).map V.int) (fun i ys σ H5=>∃v0:Option V,σ=[v0,some v]/\ys=[]/\c6 H4 H5)
       ⟨none,rfl,rfl,c6.refl H4⟩ (fun i ys σ H5 _ zz=>by obtain ⟨_,_,_,s⟩:=zz;exact g9.of (s _ _ h4f)) ?_ ?_⟩
     · rintro i y ys σ H5 hi ⟨v0,rfl,rfl,s5⟩;obtain ⟨y,hy,rfl⟩:=K7 hi;exact ⟨_,rfl,_,rfl,v,y,rfl,.inl ⟨nt.keep (s24.trans s5),fun H6 s6=>⟨rfl,_,rfl,y7 ⟨_,rfl,rfl,s5.trans s6⟩⟩⟩⟩
     rintro ys σ H5 ⟨v0,rfl,rfl,s5⟩ w1 hw1;have s6:c6 H5 (c9 H5 w1 (.lst [])):=c6.upd_new hw1;have h6w:(c9 H5 w1 (.lst [])) w1=some (.lst []):=c7;generalize (c9 H5 w1 (.lst []))=H6 at s6 h6w ⊢;refine ⟨ef5 _,fun w2 hw2=> ?_⟩;have s7:c6 H6 (c9 H6 w2 (.lst [])):=c6.upd_new hw2;have h7w:(c9 H6 w2 (.lst [])) w2=some (.lst []):=c7;generalize (c9 H6 w2 (.lst []))=H7 at s7 h7w ⊢;refine ⟨w1,w2,[],[],true,rfl,rfl,g9.of (s7 _ _ h6w),g9.of h7w,aw4 K _ _ _ rfl (by decide),_,rfl,y7 ?_⟩;have s17:=s2.trans ((s24.trans s5).trans (s6.trans s7));have nt7:=nt.keep ((s24.trans s5).trans (s6.trans s7));have hd7:=hd.keep ((s24.trans s5).trans (s6.trans s7));clear hw1 hw2 h6w h7w s6 s7 s5 s24 s3 s4 h3e h4f he hf
     refine ⟨_,rfl,bd,rfl,⟨_,g9.of (s17 _ _ h1b)⟩,ah4 (K:=K) (a:=bd) (xs:=ns.map V.int) (fun i ys σ H8=>∃v0:Option V,σ=[v0,some v]/\ys=[]/\c6 H7 H8)
       ⟨none,rfl,rfl,c6.refl H7⟩ (fun i ys σ H8 _ zz=>by obtain ⟨_,_,_,s⟩:=zz;exact g9.of (s _ _ (s17 _ _ h1b))) ?_ ?_⟩
     · rintro i y ys σ H8 hi ⟨v0,rfl,rfl,s8⟩;obtain ⟨y,hy,rfl⟩:=K7 hi;exact ⟨_,rfl,_,rfl,v,y,0,rfl,.inl ⟨nt7.keep s8,fun H9 s9=>⟨rfl,_,rfl,y7 ⟨_,rfl,rfl,s8.trans s9⟩⟩⟩⟩
     rintro ys σ H8 ⟨v0,rfl,rfl,s8⟩ w1 hw1;have s9:c6 H8 (c9 H8 w1 (.lst [])):=c6.upd_new hw1;have h9w:(c9 H8 w1 (.lst [])) w1=some (.lst []):=c7;generalize (c9 H8 w1 (.lst []))=H9 at s9 h9w ⊢;refine ⟨ef5 _,fun w2 hw2=> ?_⟩;have s10:c6 H9 (c9 H9 w2 (.lst [])):=c6.upd_new hw2;have h10w:(c9 H9 w2 (.lst [])) w2=some (.lst []):=c7;generalize (c9 H9 w2 (.lst []))=H10 at s10 h10w ⊢;refine ⟨w1,w2,[],[],true,rfl,rfl,g9.of (s10 _ _ h9w),g9.of h10w,aw4 K _ _ _ rfl (by decide),_,rfl,y7 ?_⟩;have s110:=s17.trans (s8.trans (s9.trans s10));have nt10:=nt7.keep (s8.trans (s9.trans s10));have hd10:=hd7.keep (s8.trans (s9.trans s10));refine ⟨_,rfl,_,rfl,_,rfl,v,_,_,rfl,.inl ⟨nt10,fun H11 s11=>⟨rfl,_,rfl,?_⟩⟩⟩;refine ac5 rfl ⟨_,rfl,_,rfl,v,_,_,rfl,.inl ⟨nt10.keep s11,fun H12 s12=>⟨rfl,_,rfl,?_⟩⟩⟩;have s112:=(s110.trans s11).trans s12;refine ac5 rfl ⟨_,rfl,_,rfl,_,rfl,.ref a,_,v,rfl,.inr ⟨a,p,rfl,⟨s112 _ _ t1.1,t1.2⟩,.inl ⟨nt10.keep (s11.trans s12),fun H13 s13=>⟨rfl,_,rfl,?_⟩⟩⟩⟩;have s113:=s112.trans s13;refine ac5 rfl ⟨_,rfl,_,rfl,.ref a,_,v,rfl,.inr ⟨a,p,rfl,⟨s113 _ _ t1.1,t1.2⟩,.inl ⟨nt10.keep ((s11.trans s12).trans s13),fun H14 s14=>⟨rfl,_,rfl,?_⟩⟩⟩⟩;refine ac5 rfl ⟨_,rfl,v,d,rfl,hd10.keep (((s11.trans s12).trans s13).trans s14),_,rfl,rfl,_,rfl,?_⟩;exact ac5 rfl ⟨_,_,rfl,s113.trans s14⟩
   · rintro σ H2 ⟨v4,v5,rfl,s2⟩;exact q _ (k1.trans (s2.but g)) (D1.same s2)
end
end My
namespace My
open PySem L2 Mth
section
variable {P:Program} {w:World} {K:PySem.W.Frag} {mg:Str->Option Value} {base:Heap} {zxx zzx zyy zy zzz zyz zzy zyx zx zxz zxy:Addr}
theorem dx5 {R:St->Hp->Prop}{σ:St}{H:Hp}{A:Prop}{b:Bool}(G:St->Hp->Prop)(rest:∀σ' H',G σ' H'->R σ' H')(hb:G σ H)(ha:(∀σ' H',G σ' H'->R σ' H')->A):if b=true then A else R σ H:=by
 cases b with
 |true=>exact ha rest
 |false=>exact rest σ H hb
theorem Kp.seq {H H':Hp}(k:Kp H H'){a:Addr}{xs:List V}(h:g9 K H a xs):g9 K H' a xs:=by
 rcases h with (e|⟨o,e⟩)|h
 · exact .inl (.inl (k.lst e))
 · exact .inl (.inr ⟨o,k.nd _ _ e (fun kvs z=>by cases z)⟩)
 · exact .inr h
theorem co0 {σ:St}{H:Hp}{Q:List V->Hp->Prop}(h:Q [] H):cl3 σ H Q:=h
theorem eb3 {v:V}{σ:St}{H:Hp}{Q:V->Hp->Prop}(h:Q v H):tC v σ H Q:=h
theorem eb4 (xs:List V):w5 xs (some 1) none=xs.drop 1:=by
 cases xs with
 |nil=>rfl
 |cons x xs=>exact au0 (x::xs) 1 (by simp)
theorem eb5 (xs:List V):w5 xs none (some 1)=xs.take 1:=by
 cases xs with
 |nil=>rfl
 |cons x xs=>exact bj4 (x::xs) 1 (by simp)
noncomputable def wrd (p:List Int)(m:Nat)(a:String):String:=if 2000 < K5 p m then "TooMany" else a
theorem ce8 {p:List Int}{m:Nat}{pa:Addr}{H:Hp}{k:Int}{Q:V->Hp->Prop}{E:XK}(tp:x9 H pa p)(m1:1<=m)(hk:k < 0\/(K5 p m:Int)<=k)(next:∀H',Kp H H'->Q (.str (wrd p m "NoNumber")) H'):ac1 K [.ref pa,.int (m:Int),.int k] H Q E:=by
 refine ⟨_,_,_,rfl,.inr (.inr ⟨pa,p,m,rfl,rfl,tp,m1,?_⟩)⟩;unfold wrd at next
 by_cases big:2000 < K5 p m
 · rw[if_pos big] at next;exact .inl ⟨big,fun H' s=>next H' (Kp.of s)⟩
 · rw[if_neg big] at next;exact .inr ⟨by omega,hk,next⟩
theorem de6 {p r:List Int}{m:Nat}{pa b:Addr}{H:Hp}{Q:V->Hp->Prop}{E:XK}(tp:x9 H pa p)(tr:x9 H b r)(m1:1<=m)(e:p.length=r.length)(nr:¬ac8 r (m:Int) p)(next:∀H',Kp H H'->Q (.str (wrd p m "NoRoot")) H'):ag4 K [.ref pa,.int (m:Int),.ref b] H Q E:=by
 refine ⟨_,_,_,rfl,.inr ⟨pa,p,rfl,tp,.inr ⟨b,r,rfl,tr,.inr ⟨m,rfl,m1,?_⟩⟩⟩⟩;unfold wrd at next
 by_cases big:2000 < K5 p m
 · rw[if_pos big] at next;exact .inr (.inl ⟨e,big,fun H' s=>next H' (Kp.of s)⟩)
 · rw[if_neg big] at next;exact .inr (.inr ⟨e,by omega,nr,next⟩)
theorem de7 {p:List Int}{m:Nat}{pa:Addr}{H:Hp}{Q:V->Hp->Prop}{E:XK}(tp:x9 H pa p)(m1:1<=m)(next:∀v H',Kp H H'->(∀Q':V->Hp->Prop,Q' (.bl (decide (2000 < K5 p m))) H'->dt6 K v (.str "TooMany") H' Q')->Q v H'):ag3 K [.ref pa,.int (m:Int)] H Q E:=by
 refine ⟨_,_,rfl,.inr (.inr ?_)⟩
 by_cases big:2000 < K5 p m
 · refine .inl ⟨pa,p,m,rfl,rfl,tp,m1,big,fun H' s=>next _ H' (Kp.of s) fun Q' q=> .inl ⟨rfl,?_⟩⟩;rw[decide_eq_true big] at q;exact q
 · refine .inr ⟨pa,p,m,rfl,rfl,tp,m1,by omega,fun o bs H' ho k=>next _ H' k fun Q' q=> .inr ⟨o,_,_,rfl,rfl,g9.of ho,?_⟩⟩;rw[decide_eq_false big] at q;exact q
theorem cz1 (p:List Int)(m:Nat)(a:String):atI [V.str a,V.str "TooMany"] (if decide ((2000:Int) < ((K5 p m:Nat):Int))=true then 1 else 0)=some (.str (wrd p m a)):=by
 unfold wrd
 by_cases big:2000 < K5 p m
 · rw[if_pos big,if_pos (decide_eq_true (by omega))];exact S4 (j:=1) rfl
 · rw[if_neg big,if_neg (by rw[decide_eq_false (by omega)];decide)];exact S4 (j:=0) rfl
def bw2 (K:PySem.W.Frag):Sp:=fun vs H Q _=>∃(a:Addr) (ns:List Int),vs=[.ref a]/\g9 K H a (ns.map V.int)/\ns.length<=63/\∀H',Q (.bl true) H'
theorem U4:n5 ["script","k","deck","many","m","p","kept","bads","count","word","other","handed"] ["script"] (i8 bc1):=by rfl'
theorem dt8 {f:Addr}{fd:FuncData}(F:B6 K "law" "law" bc1 f fd)(B:Bl mg)(zgy:o4 P w K mg base "_law_deck" 2 ["cell","many"] cb8)(znx:o4 P w K mg base "_law_cell_at" 1 ["script","k"] (cb5 K))(zwz:o4 P w K mg base "_law_next" 1 ["deck"] ar0)(zgx:o4 P w K mg base "_law_turn" 2 ["deck","many"] bo9)(zoy:o4 P w K mg base "_law_turns_right" 47 ["deck","p","m","bads"] (bq2 K))(zqx:o4 P w K mg base "_law_numbers_right" 47 ["p","m","bads"] (ce7 K))(zky:o4 P w K mg base "_law_how_many" 3 ["p","m"] ah9)(ztz:o4 P w K mg base "_law_nth" 46 ["p","m","k"] (ac1 K))(zsx:o4 P w K mg base "_law_all" 45 ["p","m"] (ag3 K))(zhx:o4 P w K mg base "_law_power" 2 ["p","m"] bo7)(zwy:o4 P w K mg base "_law_number" 46 ["p","m","r"] (ag4 K)):m9 P w K mg base E2 48 f fd ["script"] (bw2 K):=by
 refine F.ok U4 (fun vs H Q E h=> ?_) (fun cdv A outer s H vs Q E hr h=> ?_)
 · obtain ⟨sc,ns,rfl,hsc,hns,q⟩:=h;rfl
 · obtain ⟨sc,ns,rfl,hsc,hns,q⟩:=h;have yyy:l6 2 _:=hr.mono (by decide);have zg:l6 1 _:=hr.mono (by decide);have zv:l6 1 _:=hr.mono (by decide);have yyx:l6 2 _:=hr.mono (by decide);have zfx:l6 47 _:=hr.mono (by decide);have zf:l6 47 _:=hr.mono (by decide);have zcx:l6 3 _:=hr.mono (by decide);have zq:l6 46 _:=hr.mono (by decide);have zly:l6 45 _:=hr.mono (by decide);have yzy:l6 2 _:=hr.mono (by decide);have zvy:l6 46 _:=hr.mono (by decide);have hu:=Q8 hr;refine ⟨_,@c8 _ _ _ _ _ (@q0 _ _ _ _ _ _ _ _ PassesOwn.never rfl (@Q6 _ _ _ _ _ _ (by rfl) B.range (@e8 _ _ _ (@bb5 _ _ _ _ _ _ rfl B.max (@e7 _ _ _ _ _ (@h8 _ _ _ _) (@e8 _ _ _ (@ch6 _ _ _ _ _ _ rfl B.min (@e7 _ _ _ _ _ (@o8 _ _ _ _ _ B.len (@e8 _ _ _ (pv 0) (by rfl)) (by rfl) (by rfl)) (@e8 _ _ _ (@h8 _ _ _ _) (by rfl)) (by rfl)) (by rfl) (by rfl) (by rfl)) (by rfl)) (by rfl)) (by rfl) (by rfl) (by rfl)) (by rfl)) (by rfl)) (@i9 _ _ (1) _ U4.nd rfl (Or.inl rfl) (by trivial)) (@c8 _ _ _ _ _ (@i4 _ _ (2) _ _ _ _ U4.nd rfl (Or.inl rfl) (@i7 _ _ _ _ _ _ _ _ _ _ zgy yyy (@e7 _ _ _ _ _ (@i7 _ _ _ _ _ _ _ _ _ _ znx zg (@e7 _ _ _ _ _ (pv 0) (@e8 _ _ _ (pv 1) (by rfl)) (by rfl)) (by rfl) (by decide) (by rfl) (by rfl)) (@e8 _ _ _ (@h8 _ _ _ _) (by rfl)) (by rfl)) (by rfl) (by decide) (by rfl) (by rfl)) (by rfl) (by trivial)) (@c8 _ _ _ _ _ (@i4 _ _ (3) _ _ _ _ U4.nd rfl (Or.inl rfl) (@i6 _ _ _ _ _ _ _ _ C1 (@i7 _ _ _ _ _ _ _ _ _ _ zwz zv (@e8 _ _ _ (pv 2) (by rfl)) (by rfl) (by decide) (by rfl) (by rfl)) (@h8 _ _ _ _)) (by rfl) (by trivial)) (@c8 _ _ _ _ _ (@i4 _ _ (4) _ _ _ _ U4.nd rfl (Or.inl rfl) (@i6 _ _ _ _ _ _ _ _ C0 (@h8 _ _ _ _) (@i6 _ _ _ _ _ _ _ _ C1 (@i7 _ _ _ _ _ _ _ _ _ _ zwz zv (@e8 _ _ _ (pv 2) (by rfl)) (by rfl) (by decide) (by rfl) (by rfl)) (@h8 _ _ _ _))) (by rfl) (by trivial)) (@c8 _ _ _ _ _ (@i4 _ _ (5) _ _ _ _ U4.nd rfl (Or.inl rfl) (@V2 _ _ _ _ _ _ _ rfl B.list B.range (@e8 _ _ _ (pv 3) (by rfl)) (by rfl) (by rfl) (by rfl) (by rfl)) (by rfl) (by trivial)) (@c8 _ _ _ _ _ (@y8 _ _ _ _ _ _ _ _ (@j6 _ _ _ _ _ _ _ _ ac3 (@i6 _ _ _ _ _ _ _ _ C1 (@i7 _ _ _ _ _ _ _ _ _ _ zwz zv (@e8 _ _ _ (pv 2) (by rfl)) (by rfl) (by decide) (by rfl) (by rfl)) (@h8 _ _ _ _)) (@h8 _ _ _ _) (j7 _)) (@g6 _ _ _ (@i4 _ _ (5) _ _ _ _ U4.nd rfl (Or.inl rfl) (@i7 _ _ _ _ _ _ _ _ _ _ zgx yyx (@e7 _ _ _ _ _ (pv 2) (@e8 _ _ _ (pv 3) (by rfl)) (by rfl)) (by rfl) (by decide) (by rfl) (by rfl)) (by rfl) (by trivial))) (@o7 _)) (@c8 _ _ _ _ _ (@i4 _ _ (6) _ _ _ _ U4.nd rfl (Or.inl rfl) (@ab0 _ _ _ _ _ B.list (@e8 _ _ _ (pv 5) (by rfl)) (by rfl) (by rfl)) (by rfl) (by trivial)) (@c8 _ _ _ _ _ (@i4 _ _ (7) _ _ _ _ U4.nd rfl (Or.inl rfl) (@o5 _ _ _ _ (@e7 _ _ _ _ _ (@h8 _ _ _ _) (@e7 _ _ _ _ _ (@aj2 _ _ _ _ _ _ ac2 (@h8 _ _ _ _)) (@e8 _ _ _ (@i6 _ _ _ _ _ _ _ _ Z5 (@aj2 _ _ _ _ _ _ ac2 (@h8 _ _ _ _)) (@i6 _ _ _ _ _ _ _ _ C1 (@i7 _ _ _ _ _ _ _ _ _ _ znx zg (@e7 _ _ _ _ _ (pv 0) (@e8 _ _ _ (pv 1) (by rfl)) (by rfl)) (by rfl) (by decide) (by rfl) (by rfl)) (@i6 _ _ _ _ _ _ _ _ bh7 (@h8 _ _ _ _) (@h8 _ _ _ _)))) (by rfl)) (by rfl)) (by rfl))) (by rfl) (by trivial)) (@c8 _ _ _ _ _ (@y8 _ _ _ _ _ _ _ _ (@O0 _ _ _ _ _ _ _ (@V8 _ _ _ _ (@V7 _ _ _ (@i7 _ _ _ _ _ _ _ _ _ _ zoy zfx (@e7 _ _ _ _ _ (pv 2) (@e7 _ _ _ _ _ (pv 5) (@e7 _ _ _ _ _ (pv 4) (@e8 _ _ _ (pv 7) (by rfl)) (by rfl)) (by rfl)) (by rfl)) (by rfl) (by decide) (by rfl) (by rfl)) (by intro _;rfl))) (@S1 _ _ _ _ (@V8 _ _ _ _ (@V7 _ _ _ (@i7 _ _ _ _ _ _ _ _ _ _ zqx zf (@e7 _ _ _ _ _ (pv 5) (@e7 _ _ _ _ _ (pv 4) (@e8 _ _ _ (pv 7) (by rfl)) (by rfl)) (by rfl)) (by rfl) (by decide) (by rfl) (by rfl)) (by intro _;rfl))))).pt (@g6 _ _ _ (@j9 _ _ _ _ (@K2 _ _ _ _))) (@o7 _)) (@c8 _ _ _ _ _ (@i4 _ _ (8) _ _ _ _ U4.nd rfl (Or.inl rfl) (@i7 _ _ _ _ _ _ _ _ _ _ zky zcx (@e7 _ _ _ _ _ (pv 5) (@e8 _ _ _ (pv 4) (by rfl)) (by rfl)) (by rfl) (by decide) (by rfl) (by rfl)) (by rfl) (by trivial)) (@c8 _ _ _ _ _ (@i4 _ _ (9) _ _ _ _ U4.nd rfl (Or.inl rfl) (@N7 _ _ _ _ _ _ _ G1 (@o5 _ _ _ _ (@e7 _ _ _ _ _ (@G3 _ _ _ _) (@e8 _ _ _ (@G3 _ _ _ _) (by rfl)) (by rfl))) (@aq2 _ _ _ _ _ B.int (@e8 _ _ _ (@Y2 _ _ _ _ _ _ _ _ an5 (pv 8) (@h8 _ _ _ _) (j7 _)) (by rfl)) (by rfl) (by rfl)) (fun _ _=>rfl)) (by rfl) (by trivial)) (@c8 _ _ _ _ _ (@y8 _ _ _ _ _ _ _ _ (@O0 _ _ _ _ _ _ _ (@j6 _ _ _ _ _ _ _ _ R9 (@i7 _ _ _ _ _ _ _ _ _ _ ztz zq (@e7 _ _ _ _ _ (pv 5) (@e7 _ _ _ _ _ (pv 4) (@e8 _ _ _ (pv 8) (by rfl)) (by rfl)) (by rfl)) (by rfl) (by decide) (by rfl) (by rfl)) (pv 9) (j7 _)) (@S1 _ _ _ _ (@j6 _ _ _ _ _ _ _ _ R9 (@i7 _ _ _ _ _ _ _ _ _ _ ztz zq (@e7 _ _ _ _ _ (pv 5) (@e7 _ _ _ _ _ (pv 4) (@e8 _ _ _ (@aj2 _ _ _ _ _ _ ac2 (@h8 _ _ _ _)) (by rfl)) (by rfl)) (by rfl)) (by rfl) (by decide) (by rfl) (by rfl)) (pv 9) (j7 _)))).pt (@g6 _ _ _ (@j9 _ _ _ _ (@K2 _ _ _ _))) (@o7 _)) (@c8 _ _ _ _ _ (@y8 _ _ _ _ _ _ _ _ (@j6 _ _ _ _ _ _ _ _ R9 (@Y2 _ _ _ _ _ _ _ _ (dt7 hu) (@i7 _ _ _ _ _ _ _ _ _ _ zsx zly (@e7 _ _ _ _ _ (pv 5) (@e8 _ _ _ (pv 4) (by rfl)) (by rfl)) (by rfl) (by decide) (by rfl) (by rfl)) (@G3 _ _ _ _) (j7 _)) (@Y2 _ _ _ _ _ _ _ _ an5 (pv 8) (@h8 _ _ _ _) (j7 _)) (j7 _)) (@g6 _ _ _ (@j9 _ _ _ _ (@K2 _ _ _ _))) (@o7 _)) (@c8 _ _ _ _ _ (@i4 _ _ (10) _ _ _ _ U4.nd rfl (Or.inl rfl) (@i6 _ _ _ _ _ _ _ _ Q7 (@O9 _ _ _ _ _ _ _ _ _ _ S6 (pv 5) (@Q0 _ _ _ (@h8 _ _ _ _)) (@S3 _)) (@O9 _ _ _ _ _ _ _ _ _ _ S6 (pv 5) (@S3 _) (@Q0 _ _ _ (@h8 _ _ _ _)))) (by rfl) (by trivial)) (@c8 _ _ _ _ _ (@i4 _ _ (11) _ _ _ _ U4.nd rfl (Or.inl rfl) (@ab0 _ _ _ _ _ B.list (@e8 _ _ _ (pv 10) (by rfl)) (by rfl) (by rfl)) (by rfl) (by trivial)) (@c8 _ _ _ _ _ (@y8 _ _ _ _ _ _ _ _ (@dn8 _ _ _ _ _ _ _ (@j6 _ _ _ _ _ _ _ _ (ac6 0 hu) (@i7 _ _ _ _ _ _ _ _ _ _ zhx yzy (@e7 _ _ _ _ _ (pv 10) (@e8 _ _ _ (pv 4) (by rfl)) (by rfl)) (by rfl) (by decide) (by rfl) (by rfl)) (pv 5) (j7 _)) (@dh1 _ _ _ _ (@j6 _ _ _ _ _ _ _ _ R9 (@i7 _ _ _ _ _ _ _ _ _ _ zwy zvy (@e7 _ _ _ _ _ (pv 5) (@e7 _ _ _ _ _ (pv 4) (@e8 _ _ _ (pv 11) (by rfl)) (by rfl)) (by rfl)) (by rfl) (by decide) (by rfl) (by rfl)) (@N7 _ _ _ _ _ _ _ G1 (@o5 _ _ _ _ (@e7 _ _ _ _ _ (@G3 _ _ _ _) (@e8 _ _ _ (@G3 _ _ _ _) (by rfl)) (by rfl))) (@aq2 _ _ _ _ _ B.int (@e8 _ _ _ (@Y2 _ _ _ _ _ _ _ _ an5 (pv 8) (@h8 _ _ _ _) (j7 _)) (by rfl)) (by rfl) (by rfl)) (fun _ _=>rfl)) (j7 _)))).pt (@g6 _ _ _ (@j9 _ _ _ _ (@K2 _ _ _ _))) (@o7 _)) (@g6 _ _ _ (@y8 _ _ _ _ _ _ _ _ (@O0 _ _ _ _ _ _ _ (@j6 _ _ _ _ _ _ _ _ (ac6 0 hu) (pv 5) (pv 6) (j7 _)) (@S1 _ _ _ _ (@j6 _ _ _ _ _ _ _ _ (ac6 0 hu) (pv 11) (pv 10) (j7 _)))).pt (@g6 _ _ _ (@j9 _ _ _ _ (@K2 _ _ _ _))) (@o7 _)))))))))))))))))) (by intro _;rfl)) (@g6 _ _ _ (@j9 _ _ _ _ (@K2 _ _ _ _))),?_⟩
   try dsimp only[t6,Cx.nox,Cx.wish]
   refine ⟨_,rfl,sc,_,rfl,.inl hsc,_,3,rfl,1,_,rfl,_,rfl,?_⟩;obtain ⟨mx,hmx,hm1,hm2⟩:=dq7 (n:=3) (c:=((ns.map V.int).length:Int)) (by decide) (by omega);rw[hmx]
   refine ⟨by omega,by omega,G7 (lo:=0) (n:=mx.toNat) (fun i σ H2=>∃v1 v2 v3 v4 v5 v6 v7 v8 v9 v10 v11:Option V,σ=[some (.ref sc),v1,v2,v3,v4,v5,v6,v7,v8,v9,v10,v11]/\Kp H H2)
     ⟨none,none,none,none,none,none,none,none,none,none,none,rfl,Kp.refl H⟩ ?_ (fun σ H2 zz=>by obtain ⟨_,_,_,_,_,_,_,_,_,_,_,_,_⟩:=zz;exact q H2)⟩
   rintro i σ H2 hi ⟨v1,v2,v3,v4,v5,v6,v7,v8,v9,v10,v11,rfl,k02⟩;have hsc2:=k02.seq hsc;refine ⟨_,rfl,_,rfl,sc,ns,_,rfl,hsc2,by omega,fun z=> ?_⟩;refine ⟨z,420,rfl,by decide,fun g H3 hg s03 D3=> ?_⟩;refine ⟨_,rfl,g,rfl,D3,fun x1 H4 x10 D4 kb4=>⟨_,_,rfl,rfl,(by show (0:Int) < 15;decide),?_⟩⟩;have s04:c6 H2 H4:=s03.kb kb4 hg;have c1:=eh6 x1 (show (15:Int)≠0 by decide);have c2:=ei7 x1 (show (0:Int) < 15 by decide);obtain ⟨n0,hn0⟩:=em2 c1;refine ⟨_,rfl,g,rfl,D4,fun x2 H5 x20 D5 kb5=>⟨_,_,rfl,rfl,(by show (0:Int) < 6;decide),?_⟩⟩;have s05:c6 H2 H5:=s04.kb kb5 hg;have d1:=eh6 x2 (show (6:Int)≠0 by decide);have d2:=ei7 x2 (show (0:Int) < 6 by decide);obtain ⟨m0,hm0⟩:=em2 d1;have en:(n0:Int)=x1%15:=hn0.symm
   have em:((1+m0:Nat):Int)=1+x2%6:=by rw[hm0];omega
   clear hn0 hm0 c1 d1;refine ⟨_,_,rfl,rfl,?_⟩;refine ⟨_,rfl,(n0:Int),by rw[en],fun r hr=> ?_⟩;have s6:c6 H5 (c9 H5 r (.rng 0 (n0:Int))):=c6.upd_new hr;have h6r:(c9 H5 r (.rng 0 (n0:Int))) r=some (.rng 0 (n0:Int)):=c7;generalize (c9 H5 r (.rng 0 (n0:Int)))=H6 at s6 h6r ⊢;refine ⟨r,0,(n0:Int),rfl,h6r,⟨by decide,by decide,by omega,by omega⟩,by omega,fun pa0 hpa0=> ?_⟩;rw[show ((n0:Int) - 0).toNat=n0 by omega];have s7:c6 H6 (c9 H6 pa0 (.lst ((L2.P0 0 n0).map V.int))):=c6.upd_new hpa0;have h7p:(c9 H6 pa0 (.lst ((L2.P0 0 n0).map V.int))) pa0=some (.lst ((L2.P0 0 n0).map V.int)):=c7;generalize (c9 H6 pa0 (.lst ((L2.P0 0 n0).map V.int)))=H7 at s7 h7p ⊢;have D7:=(D5.same s6).same s7;have s07:=(s05.trans s6).trans s7;have np0:pa0≠g:=(D5.same s6).ne hpa0;have itT:E6 (L2.P0 0 n0):=⟨aj5 _,fun x hx=>(V1.mp hx).1,fun x hx=>by rw[J9];exact (V1.mp hx).2⟩;refine ⟨_,rfl,g,rfl,D7,fun x3 H8 x30 D8 kb8=>⟨_,_,rfl,rfl,(by show (0:Int) < 2;decide),rfl,_,rfl,?_⟩⟩;have s08:=s07.kb kb8 hg;have h8p:=kb8 _ _ h7p np0
   refine dx5 (fun σ' H'=>∃(pa:Addr) (p:List Int),σ'=[some (.ref sc),some (.int ((0:Int)+(i:Int))),some (.ref g),some (.int (n0:Int)),some (.int ((1+m0:Nat):Int)),some (.ref pa),v6,v7,v8,v9,v10,v11]/\x9 H' pa p/\p.length=n0/\pa≠g/\A0 H' g/\c6 H2 H') ?_ ⟨pa0,_,by rw[en,em];rfl,⟨h8p,itT,by rw[J9];omega⟩,J9 ..,np0,D8,s08⟩ fun rest=> ?_
   rotate_left
   · refine ⟨_,rfl,_,rfl,g,n0,by rw[en];rfl,D8,by omega,fun pa p H9 hpa tp lp h9p D9 kb9=> ?_⟩;exact rest _ _ ⟨pa,p,by rw[en,em];rfl,⟨h9p,tp,by omega⟩,lp,D8.ne hpa,D9,s08.kb kb9 hg⟩
   rintro σ' H9 ⟨pa,p,rfl,tp,lp,npg,D9,s09⟩
   have m1:1<=1+m0:=by omega
   generalize 1+m0=m at m1 em ⊢;refine ⟨_,rfl,pa,_,rfl,.inl (g9.of tp.1),fun ke hke=> ?_⟩;have s10:c6 H9 (c9 H9 ke (.lst (p.map V.int))):=c6.upd_new hke;have h10k:(c9 H9 ke (.lst (p.map V.int))) ke=some (.lst (p.map V.int)):=c7;generalize (c9 H9 ke (.lst (p.map V.int)))=H10 at s10 h10k ⊢;have D10:=D9.same s10;have nkg:ke≠g:=D9.ne hke;have s010:=s09.trans s10;refine ⟨_,rfl,_,rfl,_,rfl,_,rfl,sc,ns,_,rfl,s010.seq hsc2,by omega,fun z2=> ?_⟩;refine ⟨_,_,rfl,rfl,⟨by decide,by decide,by decide⟩,_,_,rfl,rfl,(show (0:Int) < 10^(29:Int).toNat by decide),_,_,rfl,rfl,(show 3<=sizeLine by decide),fun bd hbd=> ?_⟩;have zb:=eh6 z2 (show (10^(29:Int).toNat:Int)≠0 by decide);obtain ⟨zz,hzz⟩:∃x:Int,x=z2%10^(29:Int).toNat:=⟨_,rfl⟩;rw[<-hzz] at zb;obtain ⟨H11,e11⟩:∃Hn,Hn=c9 H10 bd (.lst [V.int 0,V.int (-1),V.int (-1 - z2%10^(29:Int).toNat)]):=⟨_,rfl⟩;have s11:c6 H10 H11:=e11▸c6.upd_new hbd
   have h11b:H11 bd=some (.lst (([0,-1,-1 - zz]:List Int).map V.int)):=by rw[e11,c7,hzz];rfl
   rw[<-e11];clear e11 hzz;have D11:=D10.same s11;have nbg:bd≠g:=D10.ne hbd
   have neg:∀n∈([0,-1,-1 - zz]:List Int),n < 1:=fun n hn=>by
     simp only[ee8,et4,or_false] at hn;omega
   have s911:=s10.trans s11;have s011:=s09.trans s911;refine ⟨_,rfl,_,rfl,_,rfl,_,rfl,g,pa,bd,p,m,[0,-1,-1 - zz],rfl,D11,npg,⟨s911 _ _ tp.1,tp.2⟩,nbg,h11b,(show 3<=10 by decide),fun H12 k12 D12=>⟨true,rfl,?_⟩⟩;have s0:c6 H2 H12:=s011.kb k12 hg;have t12:x9 H12 pa p:=⟨k12 _ _ (s911 _ _ tp.1) npg,tp.2⟩;have h12b:=k12 _ _ h11b nbg;have h12k:=k12 _ _ (s11 _ _ h10k) nkg;clear s03 s04 s05 s6 s7 s07 s08 s09 s10 s010 s11 s911 s011 D3 D4 D5 D7 D8 D9 D10 D11 kb4 kb5 kb8 h6r h7p h8p h10k h11b hbd hke hr hpa0 k12;refine y7 ⟨_,rfl,_,rfl,_,rfl,pa,bd,p,m,[0,-1,-1 - zz],rfl,t12,by omega,m1,h12b,neg,(show 3<=10 by decide),fun H13 s13=>⟨true,rfl,?_⟩⟩;refine y7 ?_;refine ⟨_,rfl,_,rfl,pa,p,m,rfl,⟨s13 _ _ t12.1,t12.2⟩,m1,fun H14 s14=> ?_⟩;have s1214:=s13.trans s14;have t14:x9 H14 pa p:=⟨s1214 _ _ t12.1,t12.2⟩;refine ⟨(show 2<=sizeLine by decide),fun e he=> ?_⟩;have s15:c6 H14 (c9 H14 e (.lst [V.str "NoNumber",V.str "TooMany"])):=c6.upd_new he;have h15e:(c9 H14 e (.lst [V.str "NoNumber",V.str "TooMany"])) e=some (.lst [V.str "NoNumber",V.str "TooMany"]):=c7;generalize (c9 H14 e (.lst [V.str "NoNumber",V.str "TooMany"]))=H15 at s15 h15e ⊢;refine ⟨_,rfl,_,_,rfl,rfl,_,rfl,e,_,_,_,rfl,rfl,g9.of h15e,cz1 p m "NoNumber",?_⟩;have k14:Kp H14 H15:=Kp.of s15;have t15:x9 H15 pa p:=⟨s15 _ _ t14.1,t14.2⟩;refine ⟨_,rfl,_,rfl,_,rfl,?_⟩;refine co0 ?_;show ac1 K [V.ref pa,V.int (m:Int),V.int ((K5 p m:Nat):Int)] H15 _ _
   refine ce8 t15 m1 (.inr (Int.le_refl _)) fun H16 k16=>⟨_,rfl,rfl,_,rfl,?_⟩
   refine ac5 rfl ⟨_,rfl,_,rfl,_,rfl,?_⟩;refine co0 ?_;show ac1 K [V.ref pa,V.int (m:Int),V.int (-1)] H16 _ _
   refine ce8 ⟨k16.lst t15.1,t15.2⟩ m1 (.inl (by decide)) fun H17 k17=>⟨_,rfl,rfl,_,rfl,?_⟩
   have k1517:=k16.trans k17;refine ac5 rfl ⟨_,rfl,_,rfl,?_⟩;refine co0 ?_;show ag3 K [V.ref pa,V.int (m:Int)] H17 _ _
   refine de7 ⟨k1517.lst t15.1,t15.2⟩ m1 fun v H18 k18 eqs=>eb3 (eqs _ ?_)
   refine ⟨_,rfl,_,_,rfl,rfl,rfl,_,rfl,?_⟩;have k1518:=k1517.trans k18;refine ac5 (congrArg V.bl (decide_eq_decide.mpr (show 2000 < K5 p m↔(2000:Int) < ((K5 p m:Nat):Int) by omega))) ?_;have t18:x9 H18 pa p:=⟨k1518.lst t15.1,t15.2⟩;refine ⟨_,rfl,_,rfl,pa,_,rfl,g9.of t18.1,fun b1 hb1=> ?_⟩;rw[eb4,<-ey4];have s19:c6 H18 (c9 H18 b1 (.lst ((p.drop 1).map V.int))):=c6.upd_new hb1;have h19:(c9 H18 b1 (.lst ((p.drop 1).map V.int))) b1=some (.lst ((p.drop 1).map V.int)):=c7;generalize (c9 H18 b1 (.lst ((p.drop 1).map V.int)))=H19 at s19 h19 ⊢;refine ⟨_,rfl,_,rfl,pa,_,rfl,g9.of (s19 _ _ t18.1),fun b2 hb2=> ?_⟩;rw[eb5,<-ew2];have s20:c6 H19 (c9 H19 b2 (.lst ((p.take 1).map V.int))):=c6.upd_new hb2;have h20:(c9 H19 b2 (.lst ((p.take 1).map V.int))) b2=some (.lst ((p.take 1).map V.int)):=c7;generalize (c9 H19 b2 (.lst ((p.take 1).map V.int)))=H20 at s20 h20 ⊢;refine ⟨b1,b2,_,_,rfl,rfl,s20 _ _ h19,h20,eh1 (m8 (by simp only[ed2,eg5,ee9];omega)),fun ot hot=> ?_⟩;rw[<-ed8];have lr:(p.drop 1++p.take 1).length=p.length:=(ag1 p 1).length_eq;have tr:E6 (p.drop 1++p.take 1):=⟨(ag1 p 1).nodup_iff.mpr tp.2.1.nd,fun x hx=>tp.2.1.lo x ((ag1 p 1).mem_iff.mp hx),fun x hx=>by rw[lr];exact tp.2.1.hi x ((ag1 p 1).mem_iff.mp hx)⟩;generalize (p.drop 1++p.take 1)=r at lr tr ⊢;have s21:c6 H20 (c9 H20 ot (.lst (r.map V.int))):=c6.upd_new hot;have h21:(c9 H20 ot (.lst (r.map V.int))) ot=some (.lst (r.map V.int)):=c7;generalize (c9 H20 ot (.lst (r.map V.int)))=H21 at s21 h21 ⊢;refine ⟨_,rfl,ot,_,rfl,.inl (g9.of h21),fun ha hha=> ?_⟩;have s22:c6 H21 (c9 H21 ha (.lst (r.map V.int))):=c6.upd_new hha;have h22:(c9 H21 ha (.lst (r.map V.int))) ha=some (.lst (r.map V.int)):=c7;generalize (c9 H21 ha (.lst (r.map V.int)))=H22 at s22 h22 ⊢;have k22:Kp H15 H22:=k1518.trans (Kp.of (((s19.trans s20).trans s21).trans s22));have t22:x9 H22 pa p:=⟨k22.lst t15.1,t15.2⟩;have k222:Kp H2 H22:=((Kp.of (s0.trans s1214)).trans k14).trans k22;have h22o:=s22 _ _ h21;have h22k:H22 ke=some (.lst (p.map V.int)):=k22.lst (s15 _ _ (s1214 _ _ h12k));refine ⟨_,rfl,_,rfl,ot,r,(m:Int),rfl,⟨h22o,tr,by omega⟩,fun pw t2 H23 hpw s23 pi h23=> ?_⟩;refine ⟨_,rfl,pw,pa,_,_,_,rfl,rfl,g9.of h23,g9.of (s23 _ _ t22.1),X2 _ _ _ _ _,_,rfl,?_⟩;have k23:Kp H22 H23:=Kp.of s23
   by_cases c:t2=p
   · rw[decide_eq_true c];refine y7 (y7 ?_);have kk:Kp H22 H23:=k23;refine ⟨_,rfl,_,rfl,pa,ke,_,_,_,rfl,rfl,g9.of (kk.lst t22.1),g9.of (kk.lst h22k),X2 _ _ _ _ _,_,rfl,?_⟩;rw[decide_eq_true rfl];refine y7 ⟨_,rfl,_,rfl,ha,ot,_,_,_,rfl,rfl,g9.of (kk.lst h22),g9.of (kk.lst h22o),X2 _ _ _ _ _,_,rfl,?_⟩;rw[decide_eq_true rfl];exact y7 ⟨_,_,_,_,_,_,_,_,_,_,_,rfl,k02.trans (k222.trans kk)⟩
   · rw[decide_eq_false c];refine J8 ⟨_,rfl,_,rfl,_,rfl,?_⟩;refine co0 ?_;show ag4 K [V.ref pa,V.int (m:Int),V.ref ha] H23 _ _
     refine de6 ⟨s23 _ _ t22.1,t22.2⟩ ⟨s23 _ _ h22,tr,by omega⟩ m1 lr.symm (fun z=>c (pi.uniq z)) fun H24 k24=> ?_
     refine ⟨(show 2<=sizeLine by decide),fun e2 he2=> ?_⟩;have s25:c6 H24 (c9 H24 e2 (.lst [V.str "NoRoot",V.str "TooMany"])):=c6.upd_new he2;have h25e:(c9 H24 e2 (.lst [V.str "NoRoot",V.str "TooMany"])) e2=some (.lst [V.str "NoRoot",V.str "TooMany"]):=c7;generalize (c9 H24 e2 (.lst [V.str "NoRoot",V.str "TooMany"]))=H25 at s25 h25e ⊢;refine ⟨_,rfl,_,_,rfl,rfl,_,rfl,e2,_,_,_,rfl,rfl,g9.of h25e,cz1 p m "NoRoot",rfl,_,rfl,?_⟩;refine ac5 rfl ?_;have kk:Kp H22 H25:=(k23.trans k24).trans (Kp.of s25);refine ⟨_,rfl,_,rfl,pa,ke,_,_,_,rfl,rfl,g9.of (kk.lst t22.1),g9.of (kk.lst h22k),X2 _ _ _ _ _,_,rfl,?_⟩;rw[decide_eq_true rfl];refine y7 ⟨_,rfl,_,rfl,ha,ot,_,_,_,rfl,rfl,g9.of (kk.lst h22),g9.of (kk.lst h22o),X2 _ _ _ _ _,_,rfl,?_⟩;rw[decide_eq_true rfl];exact y7 ⟨_,_,_,_,_,_,_,_,_,_,_,rfl,k02.trans (k222.trans kk)⟩
end
end My
namespace My
open PySem L2 Mth
theorem bn1 {P:List Value->Prop}(h:∀x0,P [x0]):∀us:List Value,us.length=1->P us
 |[_],_=>h _
theorem bn2 {P:List Value->Prop}(h:∀x0 x1,P [x0,x1]):∀us:List Value,us.length=2->P us
 |[_,_],_=>h _ _
theorem bn3 {P:List Value->Prop}(h:∀x0 x1 x2,P [x0,x1,x2]):∀us:List Value,us.length=3->P us
 |[_,_,_],_=>h _ _ _
theorem bn4 {P:List Value->Prop}(h:∀x0 x1 x2 x3,P [x0,x1,x2,x3]):∀us:List Value,us.length=4->P us
 |[_,_,_,_],_=>h _ _ _ _
theorem ed0 {l:PySem.W.OpenLaw}{w:World}{K:PySem.W.Frag}{h:Heap}{mg:Str->Option Value}{fa f0 f1 f2 f3 f4 f5 f6 f7 f8 f9 f10 f11 f12 f13 f14 f15 f16 f17 f18 f19 f20 f21 f22 f23 f24 f25 f26 f27 f28 f29 f30 f31 f32 f33 f34 f35 f36 f37 f38 f39 f40 f41 f42:Addr}{zxx zzx zyy zy zzz zyz zzy zyx zx zxz zxy:Addr}{tk0 tk1:Tok}(X:K.In h)(G:h.Ns mainGlobals mg)(hfa:mg "law"=some (.ref fa))
   (u0:Fu K "is_whole" au8 f0)
   (u1:Fu K "must_be_from_one" N0 f1)
   (u2:Fu K "must_be_few" Z9 f2)
   (u3:Fu K "greatest_part" ad1 f3)
   (u4:Fu K "walk_ring" ao9 f4)
   (u5:Fu K "walk_rings" al6 f5)
   (u6:Fu K "send_along" X8 f6)
   (u7:Fu K "sort_by_length" aa2 f7)
   (u8:Fu K "picks_of" au9 f8)
   (u9:Fu K "lay_every_way" ad2 f9)
   (u10:Fu K "is_turn" ah7 f10)
   (u11:Fu K "must_be_turn" U0 f11)
   (u12:Fu K "must_fit" aj6 f12)
   (u13:Fu K "join_rings" al7 f13)
   (u14:Fu K "right_numbers" ad3 f14)
   (u15:Fu K "ways_to_follow" aa3 f15)
   (u16:Fu K "count_joins" ai4 f16)
   (u17:Fu K "how_many_roots" V4 f17)
   (u18:Fu K "chains_of" ap0 f18)
   (u19:Fu K "ways_to_join" Y6 f19)
   (u20:Fu K "all_roots" ag9 f20)
   (u21:Fu K "nth_root" av0 f21)
   (u22:Fu K "number_of_root" aa4 f22)
   (u23:Fu K "_law_cell_at" ai5 f23)
   (u24:Fu K "_law_stir" av2 f24)
   (u25:Fu K "_law_deck" av3 f25)
   (u26:Fu K "_law_next" av4 f26)
   (u27:Fu K "_law_turn" av5 f27)
   (u28:Fu K "_law_rounds" al8 f28)
   (u29:Fu K "_law_power" ap1 f29)
   (u30:Fu K "_law_counts" al9 f30)
   (u31:Fu K "_law_rights" am0 f31)
   (u32:Fu K "_law_woven" ap2 f32)
   (u33:Fu K "_law_how_many" af4 f33)
   (u34:Fu K "_law_word" av6 f34)
   (u35:Fu K "_law_spoilt" am1 f35)
   (u36:Fu K "_law_bad_turns" ad4 f36)
   (u37:Fu K "_law_all" az3 f37)
   (u38:Fu K "_law_nth" az4 f38)
   (u39:Fu K "_law_number" am2 f39)
   (u40:Fu K "_law_turns_right" Z3 f40)
   (u41:Fu K "_law_numbers_right" W5 f41)
   (u42:Fu K "law" bc1 f42)
   (m0:PySem.W.nsIn K mainGlobals "MOST_THINGS"=some (some (.int 40 tk0)))
   (m1:PySem.W.nsIn K mainGlobals "MOST_TOLD"=some (some (.int 2000 tk1)))
   (zz:Fre K ["len","isinstance","int","bool","list","range","sum","min","max","enumerate","zip","sorted","tuple","str","repr","all","any","set","dict","ValueError"])
   (uT:PySem.W.nsIn K mainGlobals "TurnError"=some (some (.ref zxx)))
   (uTb:PySem.W.mroIn K zxx (.type "BaseException")=some true)
   (uTc:PySem.W.isClsIn K zxx=true)
   (uTt:PySem.W.typeIn K (.ref zxx)=some (.type "type"))
   (uG:PySem.W.specialIn K (.builtin "object.__class__") "__get__"=some (some (.builtin "getset_descriptor.__get__")))
   (uK:PySem.W.takesIn K (.builtin "object.__class__")=some true)
   (uC:bo5 K zxx [(("NoTurn":Str),zzx),(("NoFit":Str),zyy),(("NoRounds":Str),zy),(("NoNumber":Str),zzz),(("NoRoot":Str),zyz),(("TooMany":Str),zzy),(("NoKind":Str),zyx),(("NoText":Str),zx),(("NoName":Str),zxz),(("NoRow":Str),zxy)])
   (uP:bo6 K [(("NoTurn":Str),zzx),(("NoFit":Str),zyy),(("NoRounds":Str),zy),(("NoNumber":Str),zzz),(("NoRoot":Str),zyz),(("TooMany":Str),zzy),(("NoKind":Str),zyx),(("NoText":Str),zx),(("NoName":Str),zxz),(("NoRow":Str),zxy)] 0 [(("NoTurn":Str),zzx),(("NoFit":Str),zyy),(("NoRounds":Str),zy),(("NoNumber":Str),zzz),(("NoRoot":Str),zyz),(("TooMany":Str),zzy),(("NoKind":Str),zyx),(("NoText":Str),zx),(("NoName":Str),zxz),(("NoRow":Str),zxy)])
   :∃fd:FuncData,(∀(s:Shared) (v:Value),BindsTo s fd ⟨[v],[]⟩ [("script",v)])/\∀base:Heap,K.In base->base.Ns mainGlobals mg->m9 l.prog w K mg base E2 48 fa fd ["script"] (bw2 K):=by
 obtain ⟨d0,a0,F0⟩:=u0;obtain ⟨d1,a1,F1⟩:=u1;obtain ⟨d2,a2,F2⟩:=u2;obtain ⟨d3,a3,F3⟩:=u3;obtain ⟨d4,a4,F4⟩:=u4;obtain ⟨d5,a5,F5⟩:=u5;obtain ⟨d6,a6,F6⟩:=u6;obtain ⟨d7,a7,F7⟩:=u7;obtain ⟨d8,a8,F8⟩:=u8;obtain ⟨d9,a9,F9⟩:=u9;obtain ⟨d10,a10,F10⟩:=u10;obtain ⟨d11,a11,F11⟩:=u11;obtain ⟨d12,a12,F12⟩:=u12;obtain ⟨d13,a13,F13⟩:=u13;obtain ⟨d14,a14,F14⟩:=u14;obtain ⟨d15,a15,F15⟩:=u15;obtain ⟨d16,a16,F16⟩:=u16;obtain ⟨d17,a17,F17⟩:=u17;obtain ⟨d18,a18,F18⟩:=u18;obtain ⟨d19,a19,F19⟩:=u19;obtain ⟨d20,a20,F20⟩:=u20;obtain ⟨d21,a21,F21⟩:=u21;obtain ⟨d22,a22,F22⟩:=u22;obtain ⟨d23,a23,F23⟩:=u23;obtain ⟨d24,a24,F24⟩:=u24;obtain ⟨d25,a25,F25⟩:=u25;obtain ⟨d26,a26,F26⟩:=u26;obtain ⟨d27,a27,F27⟩:=u27;obtain ⟨d28,a28,F28⟩:=u28;obtain ⟨d29,a29,F29⟩:=u29;obtain ⟨d30,a30,F30⟩:=u30;obtain ⟨d31,a31,F31⟩:=u31;obtain ⟨d32,a32,F32⟩:=u32;obtain ⟨d33,a33,F33⟩:=u33;obtain ⟨d34,a34,F34⟩:=u34;obtain ⟨d35,a35,F35⟩:=u35;obtain ⟨d36,a36,F36⟩:=u36;obtain ⟨d37,a37,F37⟩:=u37;obtain ⟨d38,a38,F38⟩:=u38;obtain ⟨d39,a39,F39⟩:=u39;obtain ⟨d40,a40,F40⟩:=u40;obtain ⟨d41,a41,F41⟩:=u41;obtain ⟨d42,a42,F42⟩:=u42;have e:=hfa.symm.trans (PySem.W.mg_of X G a42);cases e;obtain ⟨z0,z1,z2,z3,z4,z5,z6,z7,z8,z9,z10,z11,z12,z13,z14,z15,z16,z17,z18,z19,_⟩:=zz;have zn {y:Str} (z:PySem.W.nsIn K mainGlobals y=some none):=PySem.W.mg_none_of X G z;have B:Bl mg:=⟨zn z0,zn z1,zn z2,zn z3,zn z4,zn z5,zn z6,zn z7,zn z8,zn z9,zn z10,zn z11,zn z12,zn z13,zn z14,zn z15,zn z16,zn z17,zn z18,zn z19⟩;have mt:∃t,mg "MOST_THINGS"=some (.int 40 t):=⟨_,PySem.W.mg_of X G m0⟩;have zr:∃t,mg "MOST_TOLD"=some (.int 2000 t):=⟨_,PySem.W.mg_of X G m1⟩;have ER:aq3 K mg zxx [(("NoTurn":Str),zzx),(("NoFit":Str),zyy),(("NoRounds":Str),zy),(("NoNumber":Str),zzz),(("NoRoot":Str),zyz),(("TooMany":Str),zzy),(("NoKind":Str),zyx),(("NoText":Str),zx),(("NoName":Str),zxz),(("NoRow":Str),zxy)]:=cw0 X G uT uTb uTc uTt uG uK uC uP (show (["NoTurn","NoFit","NoRounds","NoNumber","NoRoot","TooMany","NoKind","NoText","NoName","NoRow"]:List Str).Nodup by decide+kernel)
 have ES:∀p∈[(("NoTurn":Str),zzx),(("NoFit":Str),zyy),(("NoRounds":Str),zy),(("NoNumber":Str),zzz),(("NoRoot":Str),zyz),(("TooMany":Str),zzy),(("NoKind":Str),zyx),(("NoText":Str),zx),(("NoName":Str),zxz),(("NoRow":Str),zxy)],ea8 K p.2:=fun p hp=>⟨(uC.get p hp).s,(uC.get p hp).b⟩
 have zdz:Err K mg "NoTurn" zzx:=ER.err ("NoTurn",zzx) (by simp);have zby:Err K mg "NoFit" zyy:=ER.err ("NoFit",zyy) (by simp);have e_NoRounds:Err K mg "NoRounds" zy:=ER.err ("NoRounds",zy) (by simp);have zpx:Err K mg "NoNumber" zzz:=ER.err ("NoNumber",zzz) (by simp);have zdx:Err K mg "NoRoot" zyz:=ER.err ("NoRoot",zyz) (by simp);have zfy:Err K mg "TooMany" zzy:=ER.err ("TooMany",zzy) (by simp);have e_NoKind:Err K mg "NoKind" zyx:=ER.err ("NoKind",zyx) (by simp);have e_NoText:Err K mg "NoText" zx:=ER.err ("NoText",zx) (by simp);have e_NoName:Err K mg "NoName" zxz:=ER.err ("NoName",zxz) (by simp);have e_NoRow:Err K mg "NoRow" zxy:=ER.err ("NoRow",zxy) (by simp)
 have b0:=F0.binds (ps:=["thing"]) fun _ _ _ _ _ _=>bn1 fun _=>rfl
 have b1:=F1.binds (ps:=["number"]) fun _ _ _ _ _ _=>bn1 fun _=>rfl
 have b2:=F2.binds (ps:=["many"]) fun _ _ _ _ _ _=>bn1 fun _=>rfl
 have b3:=F3.binds (ps:=["a","b"]) fun _ _ _ _ _ _=>bn2 fun _ _=>rfl
 have b4:=F4.binds (ps:=["p","first"]) fun _ _ _ _ _ _=>bn2 fun _ _=>rfl
 have b5:=F5.binds (ps:=["p"]) fun _ _ _ _ _ _=>bn1 fun _=>rfl
 have b6:=F6.binds (ps:=["target","ring","steps"]) fun _ _ _ _ _ _=>bn3 fun _ _ _=>rfl
 have b7:=F7.binds (ps:=["rings"]) fun _ _ _ _ _ _=>bn1 fun _=>rfl
 have b8:=F8.binds (ps:=["rings"]) fun _ _ _ _ _ _=>bn1 fun _=>rfl
 have b9:=F9.binds (ps:=["p","choices"]) fun _ _ _ _ _ _=>bn2 fun _ _=>rfl
 have b10:=F10.binds (ps:=["thing"]) fun _ _ _ _ _ _=>bn1 fun _=>rfl
 have b11:=F11.binds (ps:=["thing"]) fun _ _ _ _ _ _=>bn1 fun _=>rfl
 have b12:=F12.binds (ps:=["p","q"]) fun _ _ _ _ _ _=>bn2 fun _ _=>rfl
 have b13:=F13.binds (ps:=["rings","m"]) fun _ _ _ _ _ _=>bn2 fun _ _=>rfl
 have b14:=F14.binds (ps:=["length","m","most"]) fun _ _ _ _ _ _=>bn3 fun _ _ _=>rfl
 have b15:=F15.binds (ps:=["left","part","length"]) fun _ _ _ _ _ _=>bn3 fun _ _ _=>rfl
 have b16:=F16.binds (ps:=["length","many","m"]) fun _ _ _ _ _ _=>bn3 fun _ _ _=>rfl
 have b17:=F17.binds (ps:=["p","m"]) fun _ _ _ _ _ _=>bn2 fun _ _=>rfl
 have b18:=F18.binds (ps:=["rings","part"]) fun _ _ _ _ _ _=>bn2 fun _ _=>rfl
 have b19:=F19.binds (ps:=["rings","right","m"]) fun _ _ _ _ _ _=>bn3 fun _ _ _=>rfl
 have b20:=F20.binds (ps:=["p","m"]) fun _ _ _ _ _ _=>bn2 fun _ _=>rfl
 have b21:=F21.binds (ps:=["p","m","k"]) fun _ _ _ _ _ _=>bn3 fun _ _ _=>rfl
 have b22:=F22.binds (ps:=["p","m","r"]) fun _ _ _ _ _ _=>bn3 fun _ _ _=>rfl
 have b23:=F23.binds (ps:=["script","k"]) fun _ _ _ _ _ _=>bn2 fun _ _=>rfl
 have b24:=F24.binds (ps:=["cell","k"]) fun _ _ _ _ _ _=>bn2 fun _ _=>rfl
 have b25:=F25.binds (ps:=["cell","many"]) fun _ _ _ _ _ _=>bn2 fun _ _=>rfl
 have b26:=F26.binds (ps:=["deck"]) fun _ _ _ _ _ _=>bn1 fun _=>rfl
 have b27:=F27.binds (ps:=["deck","many"]) fun _ _ _ _ _ _=>bn2 fun _ _=>rfl
 have b28:=F28.binds (ps:=["p"]) fun _ _ _ _ _ _=>bn1 fun _=>rfl
 have b29:=F29.binds (ps:=["p","m"]) fun _ _ _ _ _ _=>bn2 fun _ _=>rfl
 have b30:=F30.binds (ps:=["p"]) fun _ _ _ _ _ _=>bn1 fun _=>rfl
 have b31:=F31.binds (ps:=["l","m","most"]) fun _ _ _ _ _ _=>bn3 fun _ _ _=>rfl
 have b32:=F32.binds (ps:=["l","many","rights"]) fun _ _ _ _ _ _=>bn3 fun _ _ _=>rfl
 have b33:=F33.binds (ps:=["p","m"]) fun _ _ _ _ _ _=>bn2 fun _ _=>rfl
 have b34:=F34.binds (ps:=["caught"]) fun _ _ _ _ _ _=>bn1 fun _=>rfl
 have b35:=F35.binds (ps:=["deck","p"]) fun _ _ _ _ _ _=>bn2 fun _ _=>rfl
 have b36:=F36.binds (ps:=["deck","p"]) fun _ _ _ _ _ _=>bn2 fun _ _=>rfl
 have b37:=F37.binds (ps:=["p","m"]) fun _ _ _ _ _ _=>bn2 fun _ _=>rfl
 have b38:=F38.binds (ps:=["p","m","k"]) fun _ _ _ _ _ _=>bn3 fun _ _ _=>rfl
 have b39:=F39.binds (ps:=["p","m","r"]) fun _ _ _ _ _ _=>bn3 fun _ _ _=>rfl
 have b40:=F40.binds (ps:=["deck","p","m","bads"]) fun _ _ _ _ _ _=>bn4 fun _ _ _ _=>rfl
 have b41:=F41.binds (ps:=["p","m","bads"]) fun _ _ _ _ _ _=>bn3 fun _ _ _=>rfl
 obtain ⟨oc,od,kV,dc,pm,an,cd,ct,sl,rfl,lk,hcd⟩:=id F42.ex;refine ⟨PySem.W.fnOf "law" "law" (aj9 bc1) (aa9 bc1) (i8 bc1) .none kV dc pm an cd ct,fun s v=> .of_eq rfl,fun base _ _=> ?_⟩;have zu:o4 l.prog w K mg base "is_whole" 1 ["thing"] (af5 K):=t7 X G a0 F0 b0 (dc6 F0 B);have zk:O2 l.prog w K mg base "must_be_from_one" 2 ["number"] (fun vs H Q E=>bc2 vs H Q E\/(bk8 zzz) vs H Q E):=ab5 X G a1 F1 b1 (m9.or (m9.lift (cw3 F1 zu)) (aw2 F1 zu zpx));have zwx:o4 l.prog w K mg base "must_be_from_one" 2 ["number"] bc2:=t7 X G a1 F1 b1 (cw3 F1 zu);have zbx:O2 l.prog w K mg base "must_be_few" 1 ["many"] (fun vs H Q E=>ba5 vs H Q E\/(ce1 zzy) vs H Q E):=ab5 X G a2 F2 b2 (m9.or (m9.lift (ar6 F2 zr)) (bl9 F2 zr zfy));have zsy:o4 l.prog w K mg base "must_be_few" 1 ["many"] ba5:=t7 X G a2 F2 b2 (ar6 F2 zr);have zmx:o4 l.prog w K mg base "greatest_part" 1 ["a","b"] cn0:=t7 X G a3 F3 b3 (ds4 F3);have yx:o4 l.prog w K mg base "walk_ring" 1 ["p","first"] cb0:=t7 X G a4 F4 b4 (dk4 F4);have zt:o4 l.prog w K mg base "walk_rings" 2 ["p"] ab6:=t7 X G a5 F5 b5 (dc7 F5 B yx);have zrx:o4 l.prog w K mg base "send_along" 1 ["target","ring","steps"] (bf5 bk4 bc5):=t7 X G a6 F6 b6 (df8 (dk5 F6 B) (bv4 F6 B));have zvz:o4 l.prog w K mg base "sort_by_length" 1 ["rings"] bc3:=t7 X G a7 F7 b7 (dd1 F7 B);have zgz:o4 l.prog w K mg base "picks_of" 1 ["rings"] bp7:=t7 X G a8 F8 b8 (cg2 F8 B);have zpz:o4 l.prog w K mg base "lay_every_way" 1 ["p","choices"] cn5:=t7 X G a9 F9 b9 (bh2 F9 B);have zkx:o4 l.prog w K mg base "is_turn" 2 ["thing"] (bf5 av7 (bp2 K)):=t7 X G a10 F10 b10 (df8 (cw1 F10 B mt zu) (cn2 F10 B mt zu));have zh:O2 l.prog w K mg base "must_be_turn" 3 ["thing"] (fun vs H Q E=>aq9 vs H Q E\/(bc4 K zzx) vs H Q E):=ab5 X G a11 F11 b11 (m9.or (m9.lift (cj4 F11 (df9 zkx))) (bg5 F11 zkx zdz));have zvx:o4 l.prog w K mg base "must_be_turn" 3 ["thing"] aq9:=t7 X G a11 F11 b11 (cj4 F11 (df9 zkx));have yxz:O2 l.prog w K mg base "must_fit" 1 ["p","q"] (fun vs H Q E=>bm0 vs H Q E\/(ce2 zyy) vs H Q E):=ab5 X G a12 F12 b12 (m9.or (m9.lift (be3 F12 B)) (ce3 F12 B zby));have zcy:o4 l.prog w K mg base "must_fit" 1 ["p","q"] bm0:=t7 X G a12 F12 b12 (be3 F12 B);have zry:o4 l.prog w K mg base "join_rings" 1 ["rings","m"] bk5:=t7 X G a13 F13 b13 (dk6 F13 B);have zuz:o4 l.prog w K mg base "right_numbers" 2 ["length","m","most"] aw0:=t7 X G a14 F14 b14 (bg1 F14 B zmx);have zmz:o4 l.prog w K mg base "ways_to_follow" 1 ["left","part","length"] bg2:=t7 X G a15 F15 b15 (bc8 F15 B);have zny:o4 l.prog w K mg base "count_joins" 3 ["length","many","m"] bp0:=t7 X G a16 F16 b16 (bp1 F16 B zuz zmz);have zey:O2 l.prog w K mg base "how_many_roots" 4 ["p","m"] (fun vs H Q E=>ah9 vs H Q E\/(bq1 K zzx zzz) vs H Q E):=ab5 X G a17 F17 b17 (m9.or (m9.lift (ai9 F17 B zvx zwx zvz zt zny)) (ba7 F17 zh zk));have zux:o4 l.prog w K mg base "how_many_roots" 4 ["p","m"] ah9:=t7 X G a17 F17 b17 (ai9 F17 B zvx zwx zvz zt zny);have zqz:o4 l.prog w K mg base "chains_of" 2 ["rings","part"] aw8:=t7 X G a18 F18 b18 (cd2 F18 B zgz)
 have w_ways_to_join:∀d:Nat,o4 l.prog w K mg base "ways_to_join" (d+3) ["rings","right","m"] (ar4 d):=fun d=>by
   induction d with
   |zero=>exact t7 X G a19 F19 b19 (bl5 F19 B zqz zry zrx)
   |succ d ih=>exact t7 X G a19 F19 b19 (bh1 F19 B zqz zry ih zrx)
 have zsz:o4 l.prog w K mg base "ways_to_join" 43 ["rings","right","m"] (ar4 40):=w_ways_to_join 40;have zix:O2 l.prog w K mg base "all_roots" 44 ["p","m"] (fun vs H Q E=>ar7 vs H Q E\/(ba8 K zzx zzz zzy) vs H Q E):=ab5 X G a20 F20 b20 (m9.or (m9.lift (ba6 F20 B zux zsy zvz zt zsz zuz zpz)) (bv5 F20 zey zbx));have zqy:o4 l.prog w K mg base "all_roots" 44 ["p","m"] ar7:=t7 X G a20 F20 b20 (ba6 F20 B zux zsy zvz zt zsz zuz zpz);have yxy:O2 l.prog w K mg base "nth_root" 45 ["p","m","k"] (ce5 K zzx zzz zzy):=ab5 X G a21 F21 b21 (ce6 F21 B zix zu zpx);have zex:O2 l.prog w K mg base "number_of_root" 45 ["p","m","r"] (ce4 K zzx zzz zyy zzy zyz):=ab5 X G a22 F22 b22 (ba9 F22 zh zk yxz zix zdx);have znx:o4 l.prog w K mg base "_law_cell_at" 1 ["script","k"] (cb5 K):=t7 X G a23 F23 b23 (dk7 F23 B);have c_law_stir:o4 l.prog w K mg base "_law_stir" 1 ["cell","k"] cb6:=t7 X G a24 F24 b24 (dk8 F24);have zgy:o4 l.prog w K mg base "_law_deck" 2 ["cell","many"] cb8:=t7 X G a25 F25 b25 (dk9 F25 B c_law_stir);have zwz:o4 l.prog w K mg base "_law_next" 1 ["deck"] ar0:=t7 X G a26 F26 b26 (dl0 F26);have zgx:o4 l.prog w K mg base "_law_turn" 2 ["deck","many"] bo9:=t7 X G a27 F27 b27 (dd2 F27 B zwz);have zrz:o4 l.prog w K mg base "_law_rounds" 1 ["p"] ab6:=t7 X G a28 F28 b28 (bv0 F28 B);have zhx:o4 l.prog w K mg base "_law_power" 2 ["p","m"] bo7:=t7 X G a29 F29 b29 (cb9 F29 B zrz);have zi:o4 l.prog w K mg base "_law_counts" 2 ["p"] bf9:=t7 X G a30 F30 b30 (bv1 F30 B zrz);have ziz:o4 l.prog w K mg base "_law_rights" 1 ["l","m","most"] ba0:=t7 X G a31 F31 b31 (bv3 F31 B);have zhz:o4 l.prog w K mg base "_law_woven" 1 ["l","many","rights"] bp5:=t7 X G a32 F32 b32 (cc8 F32 B);have zky:o4 l.prog w K mg base "_law_how_many" 3 ["p","m"] ah9:=t7 X G a33 F33 b33 (bl2 F33 zi zhz ziz);have ztx:o4 l.prog w K mg base "_law_word" 1 ["caught"] (az7 zzx zyy zy zzz zyz zzy zyx zx zxz zxy):=t7 X G a34 F34 b34 (cg0 F34 B ER);have zlz:o4 l.prog w K mg base "_law_spoilt" 2 ["deck","p"] (af9 K 40):=t7 X G a35 F35 b35 (bv2 F35 B zwz);have zlx:o4 l.prog w K mg base "_law_bad_turns" 3 ["deck","p"] (af9 K 200):=t7 X G a36 F36 b36 (bh5 F36 B zlz zwz);have zsx:o4 l.prog w K mg base "_law_all" 45 ["p","m"] (ag3 K):=t7 X G a37 F37 b37 (cn8 F37 zix ztx ER);have ztz:o4 l.prog w K mg base "_law_nth" 46 ["p","m","k"] (ac1 K):=t7 X G a38 F38 b38 (cn9 F38 yxy ztx ER);have zwy:o4 l.prog w K mg base "_law_number" 46 ["p","m","r"] (ag4 K):=t7 X G a39 F39 b39 (bv6 F39 zex ztx ER);have zoy:o4 l.prog w K mg base "_law_turns_right" 47 ["deck","p","m","bads"] (bq2 K):=t7 X G a40 F40 b40 (bb0 F40 B zlx zsx ztz zwy);have zqx:o4 l.prog w K mg base "_law_numbers_right" 47 ["p","m","bads"] (ce7 K):=t7 X G a41 F41 b41 (ax1 F41 B zwy ztz zsx);exact dt8 F42 B zgy znx zwz zgx zoy zqx zky ztz zsx zhx zwy
theorem ed1 {l:PySem.W.OpenLaw}{q:Program}{loose:List Str}{XP:(Str->Option Value)->Heap->Prop}{YP:World->Heap->Prop}{d:DefRec}{K:Params->PySem.W.Frag}(hn:l.most=some 63)(hdf:d.params.defaults=[])
   (hY:∀(w:World) (h:Heap),YP w h->(K w.params).In h)
   (F:∀(w:World) (mg:Str->Option Value) (fa:Addr) (h:Heap),(K w.params).In h->h.Ns mainGlobals mg->mg d.name=some (.ref fa)->
     ∃fd:FuncData,(∀(s:Shared) (u:Value),BindsTo s fd ⟨[u],[]⟩ [("script",u)])/\∀base:Heap,(K w.params).In base->base.Ns mainGlobals mg->m9 l.prog w (K w.params) mg base E2 48 fa fd ["script"] (bw2 (K w.params))):
   PySem.W.WalkO q loose XP YP l.row.toRowW d [] (fun f vs=>PySem.call f vs):=
 L2.eb7 (n:=63) (k:=48) (x:="script") (CX:=fun _=>E2) (sp:=fun w=>bw2 (K w.params)) hn (by decide) hdf ⟨rfl,by decide,by decide,rfl⟩ hY F (fun _ _ a ns hl _ hS=>⟨a,ns,rfl,hS,hl,fun _=>rfl⟩) fun _ _ _ _ _ z=>z
end My
end
def PySem.W.Fast.tw720356533007349396 : Unit := ()
def PySem.W.Fast.tw4079008272515344607 : Unit := ()
def PySem.W.Fast.tw701873143907918999 : Unit := ()
def PySem.W.Fast.tw4843289048342575711 : Unit := ()
def PySem.W.Fast.tw4141912837817382065 : Unit := ()
def PySem.W.Fast.tw10810389723894663500 : Unit := ()
def PySem.W.Fast.tw11636919621156402025 : Unit := ()
def PySem.W.Fast.tw5430536557431753454 : Unit := ()
def PySem.W.Fast.tw7522723040874105605 : Unit := ()
def PySem.W.Fast.tw5501329546992365044 : Unit := ()
def PySem.W.Fast.tw9771314379253008157 : Unit := ()
def PySem.W.Fast.tw3391079734928384241 : Unit := ()
def PySem.W.Fast.tw14122558770050671243 : Unit := ()
def PySem.W.Fast.tw265165250074917312 : Unit := ()
def PySem.W.Fast.tw17682595211595446095 : Unit := ()
def PySem.W.Fast.tw6922158497660867967 : Unit := ()
abbrev PySem.W.Fast.tw10062679476032987648:PySem.Program:=PySem.Challenge.pw_turnroots_k21_refused_in_order
theorem PySem.W.Fast.te10062679476032987648:PySem.Challenge.pw_turnroots_k21_refused_in_order=PySem.W.Fast.tw10062679476032987648:=rfl
abbrev PySem.W.Fast.tw90343872475197607:Type:=PySem.Params
theorem PySem.W.Fast.te90343872475197607:PySem.Params=PySem.W.Fast.tw90343872475197607:=rfl
open PySem PySem.W PyProof.Rows L2
set_option maxRecDepth 100000 in
set_option maxHeartbeats 0 in
theorem PySem.Challenge.cw_turnroots_k21_refused_in_order_holds : PySem.Challenge.rw_turnroots_k21_refused_in_order.Holds := by
  w_on; o_law; k_head; (case hw => w_witness2)
  k_fill
  refine My.ed1 (l := PySem.Challenge.rw_turnroots_k21_refused_in_order) rfl rfl (fun w h Y => PySem.W.kIn_of Y) ?F
  case F =>
    intro w mg fa h KX G hmg
    refine' My.ed0 KX G hmg ?_ ?_ ?_ ?_ ?_ ?_ ?_ ?_ ?_ ?_ ?_ ?_ ?_ ?_ ?_ ?_ ?_ ?_ ?_ ?_ ?_ ?_ ?_ ?_ ?_ ?_ ?_ ?_ ?_ ?_ ?_ ?_ ?_ ?_ ?_ ?_ ?_ ?_ ?_ ?_ ?_ ?_ ?_ ?_ ?_ ?_ ?_ ?_ ?_ ?_ ?_ ?_ ?_ ?_
    all_goals first
      | k_is
      | (refine' dw8 ?a ?l ?c ?k; (case a => k_is); (case l => k_is); (case c => k_is); (case k => k_is))
      | ((repeat (refine' And.intro (ClF.mk ?n ?e ?g ?h ?c ?b ?o ?i ?t ?u ?v ?s) ?_; (case n => k_is); (case e => k_exc); (case g => k_is); (case h => k_is); (case c => k_is); (case b => k_is); (case o => k_is); (case i => k_is); (case t => k_is); (case u => k_is); (case v => k_is); (case s => k_is))); exact trivial)
      | ((repeat (refine' And.intro ?n ?_; (case n => k_is))); exact trivial)
      | ((repeat (refine' And.intro ?zp ?_; (case zp => ((repeat (refine' And.intro ?n ?_; (case n => k_is))); exact trivial)))); exact trivial)
      | skip
#print axioms PySem.Challenge.cw_turnroots_k21_refused_in_order_holds
