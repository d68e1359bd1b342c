import PyProof.Rows.All
import Wide.All
import OpenK.AllK
import Wide.FinOn
import Lean
import PyProof.EqAt
import PyProof.EqKinds
import PyProof.TupleCall
import PyProof.NeKinds
import PyProof.EnumMake
import PyProof.Rows.SeqMore2
import PyProof.ZipIter
import PyProof.Rows.SortRev
import PyProof.Rows.SortWalk
import PyProof.Rows.CallKwBuiltin
import PyProof.DictIter
import PyProof.DictWalks
import PyProof.MeetsDict
import PyProof.Conv_int_bool
import PyProof.EqAt
import PyProof.CollectWalk
import PyProof.Rows.SortShell
import PyProof.Rows.Range3
import PyProof.CallFns
import PyProof.StrBlockH
import PySem.Challenge.RW_turnroots_k20_roots_by_numbers
open List renaming length_map→dz0, getElem?_eq_getElem→dz1, getElem?_eq_some_iff→dz2, getElem?_map→dz4, getD_eq_getElem?_getD→dz5, map_append→dz6, mem_cons_self→dz7, mem_of_getElem?→dz8, length_append→dz9, mem_cons_of_mem→ea0, mem_singleton→ea1, mem_map→ea2, mem_append→ea3, getElem?_eq_none→ea5, size_toArray→ea6, nodup_iff_pairwise_ne→ea7, mem_cons→ea8, mem_append_right→ea9, length_take→eb2, append_assoc→eb3, getElem?_append_left→eb6, pairwise_iff_getElem→eb7, append_nil→eb8, getElem?_append_right→eb9, mem_iff_getElem?→ec1, replicate→ec3, take_length→ec4, length_range→ec5, getElem_mem→ec6, mem_flatten→ec9, range→ed0, mem_range→ed1, length_drop→ed2, map_cons→ed3, nodup_cons→ed6, ext_getElem?→ed7, getElem?_range→ed8, mem_append_left→ed9, flatten_cons→ee1, flatMap_cons→ee2, map_map→ee4, length_cons→ee9, mem_of_mem_take→ef0, mem_filter→ef2, map_congr_left→ef3, mem_flatMap→ef4, nodup_nil→ef6, nodup_append→ef7, getElem?_take_of_lt→ef8, lookup_cons→eg4, take_append_drop→eg5, flatten_append→eg6, flatten_singleton→eh1, perm_append_comm→eh4, filter_cons_of_pos→eh7, filter_cons_of_neg→eh8, length_eq_zero_iff→eh9, all_eq_true→ei2, pairwise_map→ei3, drop_eq_getElem_cons→ei4, flatMap_append→ei5, length_filter_le→ei7, countP_cons→ej0, filterMap_cons→ej2, replicate_succ→ej3, take_of_length_le→ej5, range_succ→ej6, countP_eq_zero→ej7, length_replicate→ek4, flatMap_nil→ek5, filter_append→ek6, pairwise_singleton→ek8, length_reverse→el0, drop_eq_nil_of_le→el2, mem_reverse→el3, take_zero→el4, getElem?_drop→el5, length_set→el9, mem_of_mem_drop→em3, reverse_append→em5, map_nil→em6, getElem?_set_self→em7, find?_cons→em8, filter_nil→en1, sum_append→en2, countP_map→en3, dropLast_concat_getLast→en4, map_id→en6, countP_congr→en7, flatten→en9, getElem?_set_ne→eo0, length_dropLast→eo1, any_cons→eo4, filter_sublist→eo8, getElem?_take→ep1, foldl_append→ep4, pairwise_lt_range→ep5, length_singleton→ep6, eraseIdxIfInBounds_toArray→ep7, any_eq_true→ep9, nodup_range→eq0, getElem?_reverse→eq1, countP_le_length→eq2, length_nil→eq3, map_set→eq6, countP_eq_length_filter→eq8, mem_filterMap→er1, pairwise_cons→er2, perm_ext_iff_of_nodup→es0, all_cons→es4, extract_eq_take_drop→et0, sum_cons→et1, map_take→et2, not_mem_nil→et9, getElem?_replicate→eu0, getElem?_cons_zero→eu5, getElem?_cons_succ→eu6, of_mem_zip→eu9, drop_zero→ev6, take_succ→ev7
open Nat renaming le_refl→dz3, le_trans→ea4, zero_le→eb4, lt_of_le_of_lt→eb5, lt_of_lt_of_le→ec7, gcd→ec8, le_mul_of_pos_right→ed5, ne_of_lt→ee3, zero_mul→ee5, mul_comm→ef5, mod_eq_of_lt→eg0, mul_assoc→eg1, le_of_lt→eg2, mul_le_mul→eg3, mul_pos→eg7, add_zero→eg8, mul_le_mul_right→eg9, add_comm→eh2, mod_lt→eh3, mul_zero→eh5, mul_div_cancel_left→eh6, pow_le_pow_right→ei1, mul_one→ei6, add_le_add_left→ej4, succ_mul→ej9, zero_add→ek0, sub_self→ek1, lt_irrefl→ek3, sub_add_cancel→ek7, pow_succ→ek9, pow_le_pow_left→el1, eq_zero_or_pos→el6, add_mul→el7, gcd_dvd_right→em0, eq_of_mul_eq_mul_left→em1, le_mul_of_pos_left→en0, le_of_eq→en8, eq_of_mul_eq_mul_right→eo3, add_assoc→eo5, add_mul_mod_self_left→eo6, mul_div_cancel'→eo7, min_eq_left→eo9, pow_zero→ep3, div_add_mod→eq5, mul_le_mul_left→eq7, dvd_of_mul_dvd_mul_left→eq9, coprime_div_gcd_div_gcd→er0, lt_or_eq_of_le→er3, add_sub_cancel→er4, le_succ→er6, Coprime→er7, mul_add→er8, pow_mul→er9, lt_succ_of_lt→es6, lt_trichotomy→es7, le_of_dvd→es9, gcd_pos_of_pos_right→et3, succ_le_succ→et4, gcd_dvd_left→et6, gcd_mul_left→et7, mul_succ→eu1, lt_or_ge→eu7, gcd_comm→eu8, mul_add_mod→ev1, one_mul→ev3, pow_add→ev5
open Bool renaming false_ne_true→eb1, and_eq_true→ef1, false_eq_true→ei8, eq_iff_iff→el8, or_eq_true→eq4
open Array renaming length_toList→ec0, toList_append→ee7, getElem?_toList→ee8, toList→ef9, perm_iff_toList_perm→ej8, toList_push→em2, toList_reverse→eo2, getElem?_eq_getElem→es8, toList_map→et8
open Int renaming natCast_mul→ed4, toNat_natCast→ee0, emod_nonneg→ee6, emod_lt_of_pos→eh0, natAbs_natCast→ei0, natCast_emod→ei9, eq_ofNat_of_zero_le→ej1, toNat_of_nonneg→em4, toNat→en5, emod_eq_zero_of_dvd→ep2, dvd_self_sub_emod→ep8, fdiv_eq_ediv_of_nonneg→er5, natCast_add→ev0, natCast_sub→ev2
open Option renaming map_some→em9, isSome_iff_exists→ep0, isSome_map→es5
set_option Elab.async false
set_option linter.all false
set_option maxRecDepth 100000
set_option maxHeartbeats 8000000
set_option Elab.async false
set_option linter.all false
set_option maxRecDepth 100000
namespace L2
local macro_rules|`(tactic|omega)=>`(tactic|lia)
open PySem PySem.Spec PyProof.Rows
abbrev o9:=Sum Int Str
def az7:o9->Value->Bool
 | .inl k,v=>Value.isInt k v
 | .inr x,v=>Value.isStrOf x v
def du3 (w:World):o9->Int
 | .inl k=>hashInt k
 | .inr x=>hashStr w x
theorem M9:∀{k:o9} {v:Value},az7 k v=true->(∃i t,k=Sum.inl i/\v=Value.int i t)\/(∃x t,k=Sum.inr x/\v=Value.str x t)
 | .inl i,v,h=>by
   obtain ⟨t,e⟩:=Value.isInt_shape (k:=i) (v:=v) h;exact .inl ⟨i,t,rfl,e⟩
 | .inr x,v,h=>by
   obtain ⟨t,e⟩:=Value.isStrOf_shape (x:=x) (v:=v) h;exact .inr ⟨x,t,rfl,e⟩
theorem cl8 (i:Int)(t:Tok):az7 (.inl i) (.int i t)=true:=by simp [az7,Value.isInt]
theorem cl9 (x:Str)(t:Tok):az7 (.inr x) (.str x t)=true:=by simp [az7,Value.isStrOf]
theorem di0 (a b:Int):decide ((Sum.inl a:o9)=Sum.inl b)=(a==b):=by
 by_cases e:a=b
 · subst e;simp
 · have h:¬(Sum.inl a:o9)=Sum.inl b:=fun q=>e (Sum.inl.inj q)
   rw[decide_eq_false h];exact (beq_eq_false_iff_ne.mpr e).symm
theorem di1 (a b:Str):decide ((Sum.inr a:o9)=Sum.inr b)=decide (a=b):=by
 by_cases e:a=b
 · subst e;simp
 · have h:¬(Sum.inr a:o9)=Sum.inr b:=fun q=>e (Sum.inr.inj q)
   rw[decide_eq_false h,decide_eq_false e]
theorem di2 (a:Int)(b:Str):decide ((Sum.inl a:o9)=Sum.inr b)=false:=decide_eq_false (fun q=>nomatch q)
theorem di3 (a:Str)(b:Int):decide ((Sum.inr a:o9)=Sum.inl b)=false:=decide_eq_false (fun q=>nomatch q)
def E6 (prog:Program)(w:World):PySem.KeyKind prog w o9 where
 is:=az7
 hash:=du3 w
 inj:=fun v a b ha hb=>by
   rcases M9 ha with ⟨i,t,rfl,rfl⟩|⟨x,t,rfl,rfl⟩
   · rcases M9 hb with ⟨j,u,rfl,e⟩|⟨y,u,rfl,e⟩
     · injection e with e1 _;rw[e1]
     · exact nomatch e
   · rcases M9 hb with ⟨j,u,rfl,e⟩|⟨y,u,rfl,e⟩
     · exact nomatch e
     · injection e with e1 _;rw[e1]
 byValue:=fun k v h=>by
   rcases M9 h with ⟨i,t,rfl,rfl⟩|⟨x,t,rfl,rfl⟩<;>rfl
 pyHash:=fun hv h=>by
   rcases M9 hv with ⟨i,t,rfl,rfl⟩|⟨x,t,rfl,rfl⟩
   · exact wpAny_pyHash_int h
   · exact wpAny_pyHash_str h
 eqBool:=fun hu hv h=>by
   rcases M9 hu with ⟨i,t,rfl,rfl⟩|⟨x,t,rfl,rfl⟩
   · rcases M9 hv with ⟨j,u,rfl,rfl⟩|⟨y,u,rfl,rfl⟩
     · rw[di0] at h;exact wpAny_eqBool_int h
     · rw[di2] at h;exact SeqAt.EqAt.int_str i t y u _ _ _ _ h
   · rcases M9 hv with ⟨j,u,rfl,rfl⟩|⟨y,u,rfl,rfl⟩
     · rw[di3] at h;exact SeqAt.EqAt.str_int x t j u _ _ _ _ h
     · rw[di1] at h;exact wpAny_eqBool_str h
 «strs»:=fun k x t v h=>by
   rcases M9 h with ⟨i,u,rfl,e⟩|⟨y,u,rfl,e⟩
   · exact nomatch e
   · injection e with e1 _
     subst e1
     cases v<;>rfl
theorem bc2 (prog:Program)(w:World)(i:Int)(t:Tok):(E6 prog w).is (.inl i) (.int i t)=true:=cl8 i t
theorem bc3 (prog:Program)(w:World)(x:Str)(t:Tok):(E6 prog w).is (.inr x) (.str x t)=true:=cl9 x t
end L2
namespace L2
local macro_rules|`(tactic|omega)=>`(tactic|lia)
open PySem PySem.Spec PyProof.Rows
inductive V where
 |non|bl (b:Bool)|int (i:Int)|str (x:Str)|byt (b:Array UInt8)|flt (b:UInt64)|ref (a:Addr)|ty (n:String)
 deriving DecidableEq
def o5:V->Value->Prop
 | .non,u=>u=Value.none
 | .bl b,u=>u=Value.bool b
 | .int i,u=>∃t,u=Value.int i t
 | .str x,u=>∃t,u=Value.str x t
 | .byt b,u=>∃t,u=Value.bytes b t
 | .flt b,u=>∃t,u=Value.float b t
 | .ref a,u=>u=Value.ref a
 | .ty n,u=>u=Value.type n
abbrev m7:List V->List Value->Prop:=Paired o5
theorem m7.length {xs:List V}{us:List Value}(r:m7 xs us):xs.length=us.length:=Paired.length r
theorem m7.get:∀{xs:List V} {us:List Value} {i:Nat} {x:V},m7 xs us->xs[i]? =some x->∃u,us[i]? =some u/\o5 x u
 |_,_,_,_,.nil,e=>by simp at e
 |_,_,0,_,.cons r _,e=>by simp at e;subst e;exact ⟨_,rfl,r⟩
 |_,_,i+1,x,.cons _ t,e=>by
  obtain ⟨u,h1,h2⟩:=m7.get (i:=i) (x:=x) t (by simpa using e);exact ⟨u,by simpa using h1,h2⟩
theorem m7.set {x:V}{u:Value}(r:o5 x u):∀{xs:List V} {us:List Value} (i:Nat),m7 xs us->m7 (xs.set i x) (us.set i u)
 |_,_,_,.nil=> .nil
 |_,_,0,.cons _ t=> .cons r t
 |_,_,i+1,.cons q t=> .cons q (m7.set r i t)
theorem m7.append:∀{xs ys:List V} {us ws:List Value},m7 xs us->m7 ys ws->m7 (xs++ys) (us++ws)
 |_,_,_,_,.nil,s=>s
 |_,_,_,_,.cons r t,s=> .cons r (m7.append t s)
theorem m7.take:∀{xs:List V} {us:List Value} (n:Nat),m7 xs us->m7 (xs.take n) (us.take n)
 |_,_,0,_=> .nil
 |_,_,_+1,.nil=> .nil
 |_,_,n+1,.cons r t=> .cons r (m7.take n t)
theorem m7.drop:∀{xs:List V} {us:List Value} (n:Nat),m7 xs us->m7 (xs.drop n) (us.drop n)
 |_,_,0,r=>r
 |_,_,_+1,.nil=> .nil
 |_,_,n+1,.cons _ t=>m7.drop n t
def aa9:Option V->Option Value->Prop
 |some v,some u=>o5 v u
 |none,none=>True
 |_,_=>False
def KV {κ:Type}:List (κ×V)->List (κ×Value)->Prop:=Paired fun (p:κ×V) (q:κ×Value)=>p.1=q.1/\o5 p.2 q.2
def kV:o9->V
 | .inl i=> .int i
 | .inr x=> .str x
inductive HO where
 |lst (xs:List V)
 |tup (xs:List V)
 |dK (kvs:List (o9×V))|dT (kvs:List (List o9×V))
 |set (S:Int->Bool) (n:Nat)
 |ins (C dx:Addr) (fs:List (Str×V))
 |own (x:Addr)
 |xd (fs:List (Str×V))
 |met (f x:Addr)
 |rng (lo hi:Int)
 |frz (o:Obj) (u:HO)
 |tbl (ps:Array Value)
 |ext (φ:Heap->Prop)
abbrev Hp:=Addr->Option HO
def c9 (H:Hp)(a:Addr)(o:HO):Hp:=fun b=>if b=a then some o else H b
theorem c8 {H:Hp}{a:Addr}{o:HO}:c9 H a o a=some o:=by unfold c9;rw[if_pos rfl]
theorem g7 {H:Hp}{a b:Addr}{o:HO}(h:b≠a):c9 H a o b=H b:=by unfold c9;rw[if_neg h]
theorem db8 {H:Hp}{a:Addr}{o u:HO}:c9 (c9 H a o) a u=c9 H a u:=by
 funext b;unfold c9;split<;>rfl
theorem ci3 {H:Hp}{a b:Addr}{o u:HO}(h:H a=some o)(h':H b=some u)(d:o≠u):a≠b:=by
 intro e;subst e;rw[h] at h';exact d (Option.some.inj h')
theorem g8 {H:Hp}{a b:Addr}{o:HO}(h:H a=some o)(h':H b=none):a≠b:=by
 intro e;subst e;rw[h] at h';cases h'
section
variable (P:Program) (w:World)
def B9 (H:Hp)(h:Heap)(a:Addr):HO->Prop
 | .lst xs=>xs.length<=sizeLine/\∃(its:List Value) (n:Nat),m7 xs its/\h.get? a=some {cls:= .type "list",data:= .seq its.toArray n}
 | .tup xs=>xs.length<=sizeLine/\∃its:List Value,m7 xs its/\IsTup h a its.toArray
 | .dK kvs=>kvs.length<=sizeLine/\(a==sysModules)=false/\∃vs,KV kvs vs/\h.DictOf (E6 P w) a vs
 | .dT kvs=>kvs.length<=sizeLine/\(a==sysModules)=false/\∃xs:List (List o9×Addr×Value),
     Paired (fun (p:List o9×V) (q:List o9×Addr×Value)=>p.1=q.1/\H q.2.1=some (.tup (p.1.map kV))/\o5 p.2 q.2.2) kvs xs/\
     ∃o es ep,h.get? a=some o/\o.ExactDict/\o.data= .dict es ep/\es.toList=xs.map (entryOfKey (tupleKind (E6 P w)))/\(xs.map (·.1)).Nodup
 | .set S n=>h.SetOf (intKind P w) a S n
 | .ins C dx fs=>H dx=some (.own a)/\fs.length<=1000/\dx≠a/\h.get? a=some (PySem.W.instObj C dx)/\
     ∃mA,h.Ns1 dx mA/\(∀f,aa9 (fs.lookup f) (mA f))/\PySem.Within mA (fs.map (·.1))
 | .own _=>∃o,h.get? a=some o
 | .xd fs=>∃mA,h.Ns1 a mA/\∀f,aa9 (fs.lookup f) (mA f)
 | .rng lo hi=>∃t u v,h.get? a=some {cls:= .type "range",data:= .fields #[.int lo t,.int hi u,.int 1 v]}
 | .frz o u=>h.get? a=some o/\B9 H h a u
 | .tbl ps=>h.get? a=some {cls:= .none,data:= .fields ps}
 | .met f x=>h.get? a=some (PySem.W.methodObj (.ref f) (.ref x))
 | .ext φ=>φ h/\(∃o,h.get? a=some o)/\∀h1 h2:Heap,φ h1->(∀o,h1.get? a=some o->h2.get? a=some o)->φ h2
def K5 (H:Hp)(h:Heap):Prop:=∀a o,H a=some o->B9 P w H h a o
end
section
variable {P:Program} {w:World} {H H':Hp} {h h':Heap} {a:Addr} {o:HO}
theorem B9.lt (x:B9 P w H h a o):a < h.objs.size:=by
 cases o with
 |lst xs=>obtain ⟨_,_,_,_,e⟩:=x;exact Heap.lt_size e
 |tup xs=>obtain ⟨_,_,_,p⟩:=x;exact p.lt
 |dK kvs=>obtain ⟨_,_,_,_,o,_,_,e,_⟩:=x;exact Heap.lt_size e
 |dT kvs=>obtain ⟨_,_,_,_,o,_,_,e,_⟩:=x;exact Heap.lt_size e
 |set S n=>obtain ⟨o,_,_,_,e,_⟩:=x;exact Heap.lt_size e
 |ins C dx fs=>obtain ⟨_,_,_,e,_⟩:=x;exact Heap.lt_size e
 |own y=>obtain ⟨_,e⟩:=x;exact Heap.lt_size e
 |xd fs=>obtain ⟨_,⟨_,_,_,e,_⟩,_⟩:=x;exact Heap.lt_size e
 |rng lo hi=>obtain ⟨_,_,_,e⟩:=x;exact Heap.lt_size e
 |frz ob u=>obtain ⟨e,_⟩:=x;exact Heap.lt_size e
 |tbl ps=>exact Heap.lt_size (show h.get? a=some _ from x)
 |met f y=>exact Heap.lt_size (show h.get? a=some _ from x)
 |ext φ=>obtain ⟨_,⟨_,e⟩,_⟩:=x;exact Heap.lt_size e
theorem Paired.mapP {α β:Type}{F G:α->β->Prop}:∀{l₁:List α} {l₂:List β},Paired F l₁ l₂->(∀a b,F a b->G a b)->Paired G l₁ l₂
 |_,_,.nil,_=> .nil
 |_,_,.cons r t,f=> .cons (f _ _ r) (Paired.mapP t f)
theorem B9.stay (x:B9 P w H h a o)(k:∀b u,(b=a\/H b=some (.own a))->h.get? b=some u->h'.get? b=some u)
   (ho:∀b,H b=some (.own a)->H' b=some (.own a)) (ht:∀b xs,H b=some (.tup xs)->H' b=some (.tup xs)):B9 P w H' h' a o:=by
 induction o with
 |lst xs=>obtain ⟨z,its,n,r,e⟩:=x;exact ⟨z,its,n,r,k _ _ (.inl rfl) e⟩
 |tup xs=>obtain ⟨z,its,r,ob,e,c⟩:=x;exact ⟨z,its,r,ob,k _ _ (.inl rfl) e,c⟩
 |dK kvs=>obtain ⟨z,y,vs,r,ob,es,ep,e,c⟩:=x;exact ⟨z,y,vs,r,ob,es,ep,k _ _ (.inl rfl) e,c⟩
 |dT kvs=>
  obtain ⟨z,y,xs,r,ob,es,ep,e,c⟩:=x;exact ⟨z,y,xs,Paired.mapP r fun p q z=>⟨z.1,ht _ _ z.2.1,z.2.2⟩,ob,es,ep,k _ _ (.inl rfl) e,c⟩
 |set S n=>obtain ⟨ob,es,ep,t,e,c⟩:=x;exact ⟨ob,es,ep,t,k _ _ (.inl rfl) e,c⟩
 |ins C dx fs=>
  obtain ⟨d,z,ne,e,mA,⟨od,es,ep,e2,c⟩,r⟩:=x;exact ⟨ho _ d,z,ne,k _ _ (.inl rfl) e,mA,⟨od,es,ep,k _ _ (.inr d) e2,c⟩,r⟩
 |own y=>obtain ⟨ob,e⟩:=x;exact ⟨ob,k _ _ (.inl rfl) e⟩
 |xd fs=>obtain ⟨mA,⟨od,es,ep,e,c⟩,r⟩:=x;exact ⟨mA,⟨od,es,ep,k _ _ (.inl rfl) e,c⟩,r⟩
 |rng lo hi=>obtain ⟨t,u,v,e⟩:=x;exact ⟨t,u,v,k _ _ (.inl rfl) e⟩
 |frz ob u ih=>obtain ⟨e,q⟩:=x;exact ⟨k _ _ (.inl rfl) e,ih q⟩
 |tbl ps=>
  have e:h.get? a=some {cls:= .none,data:= .fields ps}:=x;show h'.get? a=some {cls:= .none,data:= .fields ps};exact k a _ (.inl rfl) e
 |met f y=>
  have e:h.get? a=some (PySem.W.methodObj (.ref f) (.ref y)):=x;show h'.get? a=some (PySem.W.methodObj (.ref f) (.ref y));exact k a _ (.inl rfl) e
 |ext φ=>obtain ⟨p,⟨o,e⟩,st⟩:=x;exact ⟨st _ _ p fun o q=>k _ _ (.inl rfl) q,⟨o,k _ _ (.inl rfl) e⟩,st⟩
theorem K5.lt (x:K5 P w H h)(e:H a=some o):a < h.objs.size:=(x a o e).lt
theorem K5.fresh (x:K5 P w H h)(e:h.objs.size<=a):H a=none:=by
 cases q:H a with
 |none=>rfl
 |some u=>exact absurd (ec7 (x.lt q) e) (ek3 _)
theorem K5.kept (x:K5 P w H h)(k:∀b u,h.get? b=some u->h'.get? b=some u):K5 P w H h':=fun a o e=>
 (x a o e).stay (fun b u _ q=>k b u q) (fun _ q=>q) fun _ _ q=>q
theorem K5.laid (x:K5 P w H h)(k:∀b u,h.get? b=some u->h'.get? b=some u)(hp:h.objs.size<=a)(new:B9 P w (c9 H a o) h' a o):K5 P w (c9 H a o) h':=fun b u e=>by
 have hn:=x.fresh hp
 by_cases hb:b=a
 · subst hb;rw[c8] at e;cases e;exact new
 · rw[g7 hb] at e
   exact (x b u e).stay (fun c v _ q=>k c v q) (fun c q=>by rw[g7 (g8 q hn)];exact q) fun c xs q=>by rw[g7 (g8 q hn)];exact q
end
def Rd (H:Hp)(a:Addr)(u:HO):Prop:=H a=some u\/∃o,H a=some (.frz o u)
theorem Rd.ok {P:Program}{w:World}{H:Hp}{h:Heap}{a:Addr}{u:HO}(r:Rd H a u)(x:K5 P w H h):B9 P w H h a u:=by
 rcases r with r|⟨o,r⟩
 · exact x a u r
 · obtain ⟨_,q⟩:=x a _ r;exact q
def Mut:Option HO->Prop
 |some (.lst _)=>True
 |some (.dK _)=>True
 |some (.dT _)=>True
 |some (.set _ _)=>True
 |some (.ins _ _ _)=>True
 |some (.ext _)=>True
 |_=>False
section
variable {P:Program} {w:World} {H:Hp} {h h':Heap} {x e:Addr} {o':HO}
theorem K5.write (ok:K5 P w H h)(mu:Mut (H x))(he:e=x\/H e=some (.own x))(k:∀b u,b≠e->h.get? b=some u->h'.get? b=some u)(heo:∃u,h'.get? e=some u)
   (new:B9 P w (c9 H x o') h' x o'):K5 P w (c9 H x o') h':=fun b u q=>by
 have nown:∀c y,H c=some (.own y)->c≠x:=fun c y r z=>by subst z;rw[r] at mu;exact mu
 have ntup:∀c xs,H c=some (.tup xs)->c≠x:=fun c xs r z=>by subst z;rw[r] at mu;exact mu
 by_cases hb:b=x
 · subst hb;rw[c8] at q;cases q;exact new
 · rw[g7 hb] at q
   by_cases hbe:b=e
   · have q':H b=some (.own x):=by
       rcases he with z|z
       · exact absurd (hbe.trans z) hb
       · rw[hbe];exact z
     rw[q] at q';cases q';obtain ⟨v,hv⟩:=heo;exact ⟨v,by rw[hbe];exact hv⟩
   · refine (ok b u q).stay (fun c v hc r=>k c v ?_ r) (fun c r=>by rw[g7 (nown c b r)];exact r) fun c xs r=>by rw[g7 (ntup c xs r)];exact r
     rcases hc with rfl|hc
     · exact hbe
     · rintro rfl
       rcases he with z|z
       · exact nown c b hc z
       · rw[hc] at z;cases z;exact hb rfl
end
structure Un (fs ex:List Addr)(H H':Hp)(h h':Heap):Prop where
 keep:∀b o,h.get? b=some o->H b=none->b∉fs->b∉ex->h'.get? b=some o
 slot:∀b o,h.get? b=some o->H b=none->b∈fs->b∉ex->∃sl,h'.get? b=some {o with slots:=sl}
 free:∀b o,h.get? b=some o->H b=none->b∉ex->H' b=none
 there:∀b o,h.get? b=some o->b∉ex->∃o',h'.get? b=some o'
 tups:∀b xs,H b=some (.tup xs)->H' b=some (.tup xs)
 frzs:∀b o u,H b=some (.frz o u)->H' b=some (.frz o u)
 tbls:∀b ps,H b=some (.tbl ps)->∃more,H' b=some (.tbl (ps++more))
section
variable {fs fs' ex ex':List Addr} {H H1 H2:Hp} {h h1 h2 h':Heap} {a x e:Addr} {o:HO}
theorem Un.any (u:Un fs ex H H1 h h1){b:Addr}{ob:Obj}(q:h.get? b=some ob)(n:H b=none)(hx:b∉ex):∃sl,h1.get? b=some {ob with slots:=sl}:=by
 by_cases hb:b∈fs
 · exact u.slot b ob q n hb hx
 · exact ⟨ob.slots,u.keep b ob q n hb hx⟩
theorem Un.kept (k:∀b u,h.get? b=some u->h'.get? b=some u):Un fs ex H H h h':=
 ⟨fun b ob q _ _ _=>k b ob q,fun b ob q _ _ _=>⟨ob.slots,k b ob q⟩,fun _ _ _ n _=>n,fun b ob q _=>⟨ob,k b ob q⟩,fun _ _ q=>q,fun _ _ _ q=>q,fun _ ps q=>⟨#[],by rw[q];simp⟩⟩
theorem Un.refl:Un fs ex H H h h:=Un.kept fun _ _ q=>q
theorem Un.laid (k:∀b u,h.get? b=some u->h'.get? b=some u)(hp:h.objs.size<=a)(hn:H a=none):Un fs ex H (c9 H a o) h h' where
 keep:=fun b u q _ _ _=>k b u q
 slot:=fun b u q _ _ _=>⟨u.slots,k b u q⟩
 free:=fun b u q n _=>by rw[g7 (ee3 (ec7 (Heap.lt_size q) hp))];exact n
 there:=fun b u q _=>⟨u,k b u q⟩
 tups:=fun b xs q=>by rw[g7 (g8 q hn)];exact q
 frzs:=fun b u xs q=>by rw[g7 (g8 q hn)];exact q
 tbls:=fun b ps q=>⟨#[],by rw[g7 (g8 q hn),q];simp⟩
theorem Un.write (mu:Mut (H x))(he:e=x\/H e=some (.own x))(k:∀b u,b≠e->h.get? b=some u->h'.get? b=some u)(heo:∃u,h'.get? e=some u):Un fs ex H (c9 H x o) h h':=by
 have hx:∀b,H b=none->b≠x:=fun b n z=>by subst z;rw[n] at mu;exact mu
 have hb:∀b,H b=none->b≠e:=fun b n z=>by
   subst z
   rcases he with r|r
   · exact hx b n r
   · rw[n] at r;cases r
 have hm:∀b u,H b=some u->¬Mut (some u)->b≠x:=fun b u q nm z=>by subst z;rw[q] at mu;exact nm mu
 refine ⟨fun b u q n _ _=>k b u (hb b n) q,fun b u q n _ _=>⟨u.slots,k b u (hb b n) q⟩,fun b u q n _=>by rw[g7 (hx b n)];exact n,fun b u q _=> ?_,
   fun b xs q=>by rw[g7 (hm b _ q fun z=>z)];exact q,fun b u xs q=>by rw[g7 (hm b _ q fun z=>z)];exact q,fun b ps q=>⟨#[],by rw[g7 (hm b _ q fun z=>z),q];simp⟩⟩
 by_cases hbe:b=e
 · subst hbe;exact heo
 · exact ⟨u,k b u hbe q⟩
end
def trk (h:Heap)(H:Hp):List Addr:=(ed0 h.objs.size).filter fun a=>(H a).isSome
def ap8 (h:Heap)(H:Hp):Heap:=PySem.W.hideAll h (trk h H)
theorem cm1 (h:Heap)(H:Hp):(ap8 h H).objs.size=h.objs.size:=PySem.W.hideAll_size _ _
theorem cu5 {h:Heap}{H:Hp}{b:Addr}{o:Obj}(e:h.get? b=some o)(n:H b=none):(ap8 h H).get? b=some o:=
 PySem.W.hideAll_get _ e fun hm=>by
   have q:(H b).isSome=true:=(ef2.mp hm).2;rw[n] at q;simp at q
theorem db9 {h:Heap}{H:Hp}{b:Addr}{o:Obj}(e:(ap8 h H).get? b=some o):h.get? b=some o/\H b=none:=by
 have e':h.get? b=some o:=PySem.W.of_hideAll (trk h H) e;refine ⟨e',?_⟩
 cases q:H b with
 |none=>rfl
 |some x=>
  have hm:b∈trk h H:=ef2.mpr ⟨ed1.mpr (Heap.lt_size e'),by simp [q]⟩;have z:(ap8 h H).get? b=none:=PySem.W.hideAll_none (trk h H) hm;rw[z] at e;cases e
end L2
namespace L2
local macro_rules|`(tactic|omega)=>`(tactic|lia)
open PySem PySem.Spec PyProof.Rows
structure Mod (K:PySem.W.Frag)(mg:Str->Option Value)(base:Heap):Prop where
 kin:K.In base
 glob:base.Ns mainGlobals mg
 blt:∃mb,base.Ns builtinsNs mb/\∀x:Str,x≠"__name__"->mb x=bootBuiltins x
 nolimit:base.NoLimit
structure Cx where
 prog:Program
 w:World
 K:PySem.W.Frag
 mg:Str->Option Value
 base:Heap
 A:Around
 N:List Str
 s₀:Shared
 H₀:Hp
 env:Env
 outer:List Env
 stack:List Env
 ex:List Addr
 fn:Str->Bool
 calm:Bool
 pn:List (Addr×Obj)
 xe:Value->Shared->Prop
def J6 (l:List Env):List Addr:=l.filterMap (·.frame)
abbrev Cx.fs (X:Cx):List Addr:=J6 X.outer
def Vis (sc:Scope)(x:Str):Prop:=sc.names.lookup x=some .local\/sc.names.lookup x=some .cell\/sc.names.lookup x=some .free
def Loc (sc:Scope)(x:Str):Prop:=sc.names.lookup x=some .local\/sc.names.lookup x=some .cell
def du4 (env:Env)(h:Heap)(m:Str->Option Value)(x:Str)(u:Value):Prop:=
 (env.kindOf x=some .local/\m x=some u)\/((env.kindOf x=some .cell\/env.kindOf x=some .free)/\∃c,env.cells.lookup x=some c/\h.IsCell c (some u))
structure Cx.Ok (X:Cx):Prop where
 mod:Mod X.K X.mg X.base
 kind:X.env.scope.kind= .function
 glob:X.env.globals=mainGlobals
 blt:X.env.builtins=builtinsNs
 above:X.s₀.heap.objs.size<=X.env.locals
 inj:∀x y c,X.env.cells.lookup x=some c->X.env.cells.lookup y=some c->x=y
 has:∀x,(X.env.kindOf x=some .cell\/X.env.kindOf x=some .free)->∃c,X.env.cells.lookup x=some c
 cab:∀x c,X.fn x=true->X.env.cells.lookup x=some c->X.s₀.heap.objs.size<=c
 hd:X.calm=true->X.A.handled=none
 frames:X.A.frames=some X.stack
 stk:X.stack=X.outer\/(X.stack=X.env::X.outer/\X.env.frame=some X.env.locals)
 exf:∀b∈X.ex,b≠X.env.locals/\∀x c,X.env.cells.lookup x=some c->c≠b
 bs:∀b o,X.base.get? b=some o->X.s₀.heap.get? b=some o/\X.H₀ b=none
 bsz:X.base.objs.size<=X.s₀.heap.objs.size
 noex:∀b o,X.base.get? b=some o->b∉X.ex
 exfs:∀b∈X.ex,b∉X.fs
 funs:X.s₀.heap.FunFrames X.base X.outer
 frf:∀b∈X.fs,X.H₀ b=none
structure i5 (X:Cx)(pins:List (Addr×Obj))(σ:List (Option V))(H:Hp)(s:Shared):Prop where
 ok:X.Ok
 os:s.os=X.s₀.os
 bare:AllBare s.gens
 base:Un X.fs X.ex X.H₀ H X.s₀.heap s.heap
 loc:∃m,s.heap.Ns X.env.locals m/\∀(i:Nat) (x:Str) (v:V),X.N[i]? =some x->σ[i]? =some (some v)->Vis X.env.scope x->∃u,o5 v u/\du4 X.env s.heap m x u
 cell:∀x c,X.env.cells.lookup x=some c->∃v,s.heap.IsCell c v
 free:H X.env.locals=none
 freeC:∀x c,X.env.cells.lookup x=some c->H c=none
 pin:∀p∈X.pn++pins,s.heap.get? p.1=some p.2/\H p.1=none/\p.1≠X.env.locals/\p.1∉X.fs/\∀v,p.2.data≠.cell v
 hok:K5 X.prog X.w H s.heap
 len:σ.length=X.N.length
section
variable {X:Cx} {pins:List (Addr×Obj)} {σ:List (Option V)} {H H':Hp} {s:Shared} {h':Heap}
theorem Cx.Ok.nofr (ok:X.Ok){b:Addr}{o:Obj}(e:X.base.get? b=some o):b∉X.fs:=fun hb=>by
 have:=(ok.funs.mem hb).1;rw[e] at this;cases this
theorem i5.bs (I:i5 X pins σ H s):∀b o,X.base.get? b=some o->s.heap.get? b=some o/\H b=none:=fun b o e=>
 ⟨I.base.keep b o (I.ok.bs b o e).1 (I.ok.bs b o e).2 (I.ok.nofr e) (I.ok.noex b o e),I.base.free b o (I.ok.bs b o e).1 (I.ok.bs b o e).2 (I.ok.noex b o e)⟩
theorem i5.bk (I:i5 X pins σ H s):∀b o,X.base.get? b=some o->s.heap.get? b=some o:=fun b o e=>(I.bs b o e).1
theorem i5.mod (I:i5 X pins σ H s):Mod X.K X.mg X.base:=I.ok.mod
theorem i5.kIn (I:i5 X pins σ H s):X.K.In s.heap:=I.ok.mod.kin.keeps I.bk
theorem i5.lt (I:i5 X pins σ H s):X.env.locals < s.heap.objs.size:=let ⟨_,hn,_⟩:=I.loc;hn.lt
theorem i5.sz (I:i5 X pins σ H s):X.s₀.heap.objs.size<=s.heap.objs.size:=ea4 I.ok.above (eg2 I.lt)
theorem i5.nofs (I:i5 X pins σ H s){a:Addr}(h:s.heap.objs.size<=a):a∉X.fs:=fun hb=>by
 obtain ⟨_,o,ho,_⟩:=I.ok.funs.mem hb;exact absurd (ec7 (Heap.lt_size ho) (ea4 I.sz h)) (ek3 _)
theorem i5.cne (I:i5 X pins σ H s):∀x c,X.env.cells.lookup x=some c->c≠X.env.locals:=fun x c e z=>by
 obtain ⟨v,o,ho,hd⟩:=I.cell x c e;obtain ⟨m,⟨o',es,ep,ho',hd',_⟩,_⟩:=I.loc;rw[z,ho'] at ho;cases ho;rw[hd'] at hd;cases hd
theorem i5.funs (I:i5 X pins σ H s):s.heap.FunFrames X.base X.outer:=by
 have all:∀(l:List Env),(∀b∈J6 l,b∈X.fs)->X.s₀.heap.FunFrames X.base l->s.heap.FunFrames X.base l:=by
   intro l
   induction l with
   |nil=>intro _ _;trivial
   |cons env r ih=>
    intro hs hl;obtain ⟨hk,⟨L,o,hf,hn,ho,hd⟩,hr⟩:=hl;have hL:L∈X.fs:=hs L (by unfold J6;rw[ej2,hf];exact dz7)
    obtain ⟨sl,e⟩:=I.base.slot L o ho (I.ok.frf L hL) hL fun z=>I.ok.exfs L z hL
    exact ⟨hk,⟨L,_,hf,hn,e,hd⟩,ih (fun b hb=>hs b (by unfold J6;rw[ej2,hf];exact ea0 _ hb)) hr⟩
 exact all X.outer (fun _ hb=>hb) I.ok.funs
theorem i5.stack (I:i5 X pins σ H s):s.heap.FunFrames X.base X.stack:=by
 rcases I.ok.stk with e|⟨e,hf⟩
 · rw[e];exact I.funs
 · rw[e];obtain ⟨m,hn,_⟩:=I.loc;refine .cons (by rw[I.ok.kind];decide) hf hn ?_ I.funs;exact Heap.get?_none_of_le (ea4 I.ok.bsz I.ok.above)
theorem i5.stkSub (I:i5 X pins σ H s):∀b∈J6 X.stack,b∈X.env.locals::X.fs:=fun b hb=>by
 rcases I.ok.stk with e|⟨e,hf⟩
 · rw[e] at hb;exact ea0 _ hb
 · rw[e] at hb;unfold J6 at hb;rw[ej2,hf] at hb;exact hb
theorem i5.stkFree (I:i5 X pins σ H s):∀b∈J6 X.stack,H b=none:=fun b hb=>by
 rcases ea8.mp (I.stkSub b hb) with e|hb
 · rw[e];exact I.free
 · obtain ⟨_,o,ho,_⟩:=I.ok.funs.mem hb
   exact I.base.free b o ho (I.ok.frf b hb) fun z=>I.ok.exfs b z hb
theorem i5.step {g':Array GenState}{t':Nat}{d':Drawn}{ch:List Addr}(I:i5 X pins σ H s)
   (hch:∀b∈ch,(b∈X.ex\/X.s₀.heap.objs.size<=b)/\b≠X.env.locals/\(∀x c,X.env.cells.lookup x=some c->c≠b)/\∀p∈X.pn++pins,p.1≠b)
   (keep:∀b o,b≠X.env.locals->b∉X.fs->b∉ch->s.heap.get? b=some o->H b=none->h'.get? b=some o)
   (slot:∀b o,b≠X.env.locals->b∈X.fs->b∉ch->s.heap.get? b=some o->H b=none->∃sl,h'.get? b=some {o with slots:=sl}) (free:∀b o,b∉ch->s.heap.get? b=some o->H b=none->H' b=none)
   (there:∀b o,b∉ch->s.heap.get? b=some o->∃o',h'.get? b=some o')
   (tups:∀b xs,H b=some (.tup xs)->H' b=some (.tup xs)) (frzs:∀b o u,H b=some (.frz o u)->H' b=some (.frz o u)) (tbls:∀b ps,H b=some (.tbl ps)->∃more,H' b=some (.tbl (ps++more)))
   (ns:∀m,s.heap.Ns X.env.locals m->h'.Ns X.env.locals m) (hok:K5 X.prog X.w H' h') (hg:AllBare g'):
   i5 X pins σ H' {s with heap:=h',gens:=g',drawn:=d',toks:=t'}:=by
 have neL:∀b o,X.s₀.heap.get? b=some o->b≠X.env.locals:=fun b o e=>ee3 (ec7 (Heap.lt_size e) I.ok.above)
 have neC:∀b o,X.s₀.heap.get? b=some o->b∉X.ex->b∉ch:=fun b o e hx hb=>by
   rcases (hch b hb).1 with z|z
   · exact hx z
   · exact absurd (ec7 (Heap.lt_size e) z) (ek3 _)
 have cellK:∀x c,X.env.cells.lookup x=some c->∀v,s.heap.IsCell c v->h'.IsCell c v:=fun x c e v ⟨o,ho,hd⟩=>by
   have nch:c∉ch:=fun z=>(hch c z).2.2.1 x c e rfl
   by_cases hc:c∈X.fs
   · obtain ⟨sl,q⟩:=slot c o (I.cne x c e) hc nch ho (I.freeC x c e);exact ⟨_,q,hd⟩
   · exact ⟨o,keep c o (I.cne x c e) hc nch ho (I.freeC x c e),hd⟩
 refine ⟨I.ok,I.os,hg,⟨fun b o e n hb hx=> ?_,fun b o e n hb hx=> ?_,fun b o e n hx=> ?_,fun b o e hx=> ?_,fun b xs e=>tups b xs (I.base.tups b xs e),fun b o xs e=>frzs b o xs (I.base.frzs b o xs e),fun b ps e=> ?_⟩,?_,fun x c e=> ?_,?_,fun x c e=> ?_,fun p hp=> ?_,hok,I.len⟩
 · exact keep b o (neL b o e) hb (neC b o e hx) (I.base.keep b o e n hb hx) (I.base.free b o e n hx)
 · obtain ⟨sl,e1⟩:=I.base.slot b o e n hb hx;obtain ⟨sl',e2⟩:=slot b _ (neL b o e) hb (neC b o e hx) e1 (I.base.free b o e n hx);exact ⟨sl',e2⟩
 · obtain ⟨o',e1⟩:=I.base.there b o e hx;exact free b o' (neC b o e hx) e1 (I.base.free b o e n hx)
 · obtain ⟨o',e1⟩:=I.base.there b o e hx;exact there b o' (neC b o e hx) e1
 · obtain ⟨m1,e1⟩:=I.base.tbls b ps e;obtain ⟨m2,e2⟩:=tbls b _ e1;exact ⟨m1++m2,by rw[e2,Array.append_assoc]⟩
 · obtain ⟨m,hn,hl⟩:=I.loc;refine ⟨m,ns m hn,fun i x v e1 e2 e3=> ?_⟩;obtain ⟨u,r,l⟩:=hl i x v e1 e2 e3;refine ⟨u,r,?_⟩
   rcases l with l|⟨k,c,e,z⟩
   · exact .inl l
   · exact .inr ⟨k,c,e,cellK x c e _ z⟩
 · obtain ⟨v,z⟩:=I.cell x c e;exact ⟨v,cellK x c e v z⟩
 · obtain ⟨m,⟨o,_,_,ho,_⟩,_⟩:=I.loc;exact free _ o (fun z=>(hch _ z).2.1 rfl) ho I.free
 · obtain ⟨v,o,ho,hd⟩:=I.cell x c e;exact free c o (fun z=>(hch c z).2.2.1 x c e rfl) ho (I.freeC x c e)
 · obtain ⟨e,n,ne,nf,d⟩:=I.pin p hp
   have nch:p.1∉ch:=fun z=>(hch p.1 z).2.2.2 p hp rfl
   exact ⟨keep p.1 p.2 ne nf nch e n,free p.1 p.2 nch e n,ne,nf,d⟩
theorem i5.un {t':Nat}(I:i5 X pins σ H s)(u:Un X.fs [] H H' s.heap h')(hok:K5 X.prog X.w H' h'):i5 X pins σ H' {s with heap:=h',toks:=t'}:=by
 obtain ⟨m,⟨o,es,ep,ho,r⟩,_⟩:=id I.loc;obtain ⟨sl,hL⟩:=u.any ho I.free (by simp)
 exact I.step (g':=s.gens) (d':=s.drawn) (ch:=[]) (fun _ z=>nomatch z) (fun b o _ hb _ e n=>u.keep b o e n hb (by simp)) (fun b o _ hb _ e n=>u.slot b o e n hb (by simp)) (fun b o _ e n=>u.free b o e n (by simp)) (fun b o _ e=>u.there b o e (by simp)) u.tups u.frzs u.tbls (fun m' hm=>by
   obtain ⟨o',es',ep',ho',r'⟩:=hm;rw[ho] at ho';cases ho'
   exact ⟨_,es',ep',hL,r'⟩) hok I.bare
theorem i5.call {g':Array GenState}{t':Nat}{d':Drawn}{ch:List Addr}(I:i5 X pins σ H s)(u:Un (J6 X.stack) ch H H' s.heap h')(hok:K5 X.prog X.w H' h')(hg:AllBare g')
   (hch:∀b∈ch,(b∈X.ex\/X.s₀.heap.objs.size<=b)/\b≠X.env.locals/\(∀x c,X.env.cells.lookup x=some c->c≠b)/\∀p∈X.pn++pins,p.1≠b):
   i5 X pins σ H' {s with heap:=h',gens:=g',drawn:=d',toks:=t'}:=by
 obtain ⟨m,⟨o,es,ep,ho,r⟩,_⟩:=id I.loc
 obtain ⟨sl,hL⟩:=u.any ho I.free fun z=>(hch _ z).2.1 rfl
 exact I.step (ch:=ch) hch (fun b o hL hb hc e n=>u.keep b o e n (fun z=>(ea8.mp (I.stkSub b z)).elim hL hb) hc) (fun b o _ _ hc e n=>u.any e n hc) (fun b o hc e n=>u.free b o e n hc) (fun b o hc e=>u.there b o e hc) u.tups u.frzs u.tbls (fun m' hm=>by
   obtain ⟨o',es',ep',ho',r'⟩:=hm;rw[ho] at ho';cases ho'
   exact ⟨_,es',ep',hL,r'⟩) hok hg
theorem i5.turned {t':Nat}{it:Addr}(I:i5 X pins σ H s)(k:∀b o,b≠it->s.heap.get? b=some o->h'.get? b=some o)(hn:H it=none)(hL:it≠X.env.locals)
   (h1:it∈X.ex\/X.s₀.heap.objs.size<=it) (h2:∀x c,X.env.cells.lookup x=some c->c≠it) (h3:∀p∈X.pn++pins,p.1≠it):i5 X pins σ H {s with heap:=h',toks:=t'}:=by
 have nit:∀b u,H b=some u->b≠it:=fun b u e z=>by rw[z,hn] at e;cases e
 refine I.step (g':=s.gens) (d':=s.drawn) (ch:=[it]) (fun b hb=> ?_) (fun b o _ _ hc e _=>k b o (fun z=>hc (by simp [z])) e) (fun b o _ _ hc e _=>⟨o.slots,k b o (fun z=>hc (by simp [z])) e⟩) (fun _ _ _ _ n=>n)
   (fun b o hc e=>⟨o,k b o (fun z=>hc (by simp [z])) e⟩) (fun _ _ e=>e) (fun _ _ _ e=>e) (fun b ps e=>⟨#[],by rw[e];simp⟩) (fun m hm=> ?_) (fun b u e=> ?_) I.bare
 · have e:b=it:=by simpa using hb
   subst e;exact ⟨h1,hL,h2,h3⟩
 · obtain ⟨o,es,ep,ho,r⟩:=hm;exact ⟨o,es,ep,k _ o (Ne.symm hL) ho,r⟩
 · refine (I.hok b u e).stay (fun c v hc q=>k c v ?_ q) (fun _ q=>q) fun _ _ q=>q
   rcases hc with z|z
   · rw[z];exact nit b u e
   · exact nit c _ z
theorem i5.tok (I:i5 X pins σ H s)(t:Nat):i5 X pins σ H {s with toks:=t}:=I.un (h':=s.heap) (t':=t) Un.refl I.hok
theorem i5.kept {t':Nat}(I:i5 X pins σ H s)(k:∀b u,s.heap.get? b=some u->h'.get? b=some u):i5 X pins σ H {s with heap:=h',toks:=t'}:=I.un (Un.kept k) (I.hok.kept k)
theorem i5.laid {a:Addr}{o:HO}{t':Nat}(I:i5 X pins σ H s)(k:∀b u,s.heap.get? b=some u->h'.get? b=some u)(hp:s.heap.objs.size<=a)(new:B9 X.prog X.w (c9 H a o) h' a o):
 i5 X pins σ (c9 H a o) {s with heap:=h',toks:=t'}:=I.un (Un.laid k hp (I.hok.fresh hp)) (I.hok.laid k hp new)
theorem i5.write {x e:Addr}{o:HO}{t':Nat}(I:i5 X pins σ H s)(mu:Mut (H x))(he:e=x\/H e=some (.own x))(k:∀b u,b≠e->s.heap.get? b=some u->h'.get? b=some u)(heo:∃u,h'.get? e=some u)
 (new:B9 X.prog X.w (c9 H x o) h' x o):i5 X pins σ (c9 H x o) {s with heap:=h',toks:=t'}:=I.un (Un.write mu he k heo) (I.hok.write mu he k heo new)
theorem i5.pins_of {pins':List (Addr×Obj)}(I:i5 X pins σ H s)(h:∀p∈pins',s.heap.get? p.1=some p.2/\H p.1=none/\p.1≠X.env.locals/\p.1∉X.fs/\∀v,p.2.data≠.cell v):i5 X pins' σ H s:=
 ⟨I.ok,I.os,I.bare,I.base,I.loc,I.cell,I.free,I.freeC,fun p hp=>(ea3.mp hp).elim (fun z=>I.pin p (ed9 _ z)) (h p),I.hok,I.len⟩
theorem bd2 {N:List Str}(hN:N.Nodup){i j:Nat}{x:Str}(a:N[i]? =some x)(b:N[j]? =some x):i=j:=by
 obtain ⟨h1,e1⟩:=dz2.mp a;obtain ⟨h2,e2⟩:=dz2.mp b;exact (List.getElem_inj hN).mp (e1.trans e2.symm)
theorem bn9 {M:Model}{A:Around}{E:Value->Shared->Prop}{i:Nat}{x:Str}{v:V}{u:Value}{Q:Unit->Shared->Prop}(I:i5 X pins σ H s)(hN:X.N.Nodup)(hi:X.N[i]? =some x)(hx:Loc X.env.scope x)(r:o5 v u)
   (h:∀s',i5 X pins (σ.set i (some v)) H s'->(∃a,Heap.SameBut a s.heap s'.heap/\(a=X.env.locals\/X.env.cells.lookup x=some a))->Q () s') (hf:X.fn x=true\/X.env.scope.names.lookup x=some .local:=by first|exact .inl rfl|exact .inr rfl|assumption):wpAny M A (storeName X.env x u) Q E s:=by
 obtain ⟨m,hn,hl⟩:=id I.loc
 have hcls:(X.env.scope.kind== .class||(X.env.scope.kind== .module&&X.env.locals !=X.env.globals))=false:=by rw[I.ok.kind];rfl
 have hiσ:i < σ.length:=by rw[I.len];exact (dz2.mp hi).1
 have cne:=I.cne
 have tracked:∀{a:Addr} {h':Heap},(∃o,s.heap.get? a=some o/\H a=none)->Heap.SameBut a s.heap h'->K5 X.prog X.w H h':=fun {a h'} ha hs b ob e=>by
   obtain ⟨_,_,hfree⟩:=ha
   refine (I.hok b ob e).stay (fun c w' hc q=>(hs.2 c ?_).trans q) (fun _ q=>q) fun _ _ q=>q
   rintro rfl
   rcases hc with rfl|hc
   · rw[hfree] at e;cases e
   · rw[hfree] at hc;cases hc
 rcases hx with hk|hk
 · refine wpAny_storeName_local hk hn (fun h' hn' hs=> ?_) hcls;obtain ⟨oL,_,_,hoL,_⟩:=id hn;refine h _ ⟨I.ok,I.os,I.bare,⟨fun b o e n hb hx=> ?_,fun b o e n hb hx=> ?_,I.base.free,fun b o e hx=> ?_,I.base.tups,I.base.frzs,I.base.tbls⟩,⟨_,hn',fun j y v' e1 e2 e3=> ?_⟩,fun y c e=> ?_,I.free,I.freeC,fun p hp=> ?_,tracked ⟨oL,hoL,I.free⟩ hs,by simpa using I.len⟩ ⟨_,hs,.inl rfl⟩
   · exact (hs.2 b (ee3 (ec7 (Heap.lt_size e) I.ok.above))).trans (I.base.keep b o e n hb hx)
   · obtain ⟨sl,e1⟩:=I.base.slot b o e n hb hx;exact ⟨sl,(hs.2 b (ee3 (ec7 (Heap.lt_size e) I.ok.above))).trans e1⟩
   · obtain ⟨o',e1⟩:=I.base.there b o e hx;exact ⟨o',(hs.2 b (ee3 (ec7 (Heap.lt_size e) I.ok.above))).trans e1⟩
   · by_cases hj:j=i
     · subst hj;rw[hi] at e1;cases e1;rw[em7 hiσ] at e2;cases e2;exact ⟨u,r,.inl ⟨hk,by simp⟩⟩
     · rw[eo0 (Ne.symm hj)] at e2;obtain ⟨u',r',q⟩:=hl j y v' e1 e2 e3;refine ⟨u',r',?_⟩
       rcases q with ⟨k,e⟩|⟨k,c,e,z⟩
       · refine .inl ⟨k,?_⟩
         have:y≠x:=fun e=>hj (bd2 hN e1 (e▸hi))
         simp [this,e]
       · exact .inr ⟨k,c,e,z.sameBut hs (cne y c e)⟩
   · obtain ⟨w',z⟩:=I.cell y c e;exact ⟨w',z.sameBut hs (cne y c e)⟩
   · obtain ⟨e,n,ne,nf,d⟩:=I.pin p hp;exact ⟨(hs.2 p.1 ne).trans e,n,ne,nf,d⟩
 · have hfn:X.fn x=true:=by
     rcases hf with z|z
     · exact z
     · rw[z] at hk;cases hk
   obtain ⟨c,hc⟩:=I.ok.has x (.inl hk);obtain ⟨w',z⟩:=I.cell x c hc;refine wpAny_storeName_cell I.ok.kind hk hc z (fun h' hc' hs=> ?_);obtain ⟨oc,hoc,hocd⟩:=id z;refine h {s with heap:=h'} ⟨I.ok,I.os,I.bare,⟨fun b o e n hb hx=> ?_,fun b o e n hb hx=> ?_,I.base.free,fun b o e hx=> ?_,I.base.tups,I.base.frzs,I.base.tbls⟩,⟨m,hn.sameBut hs (Ne.symm (cne x c hc)),fun j y v' e1 e2 e3=> ?_⟩,fun y c' e=> ?_,I.free,I.freeC,fun p hp=> ?_,tracked ⟨oc,hoc,I.freeC x c hc⟩ hs,by simpa using I.len⟩ ⟨c,hs,.inr hc⟩
   · exact (hs.2 b (ee3 (ec7 (Heap.lt_size e) (I.ok.cab x c hfn hc)))).trans (I.base.keep b o e n hb hx)
   · obtain ⟨sl,e1⟩:=I.base.slot b o e n hb hx;exact ⟨sl,(hs.2 b (ee3 (ec7 (Heap.lt_size e) (I.ok.cab x c hfn hc)))).trans e1⟩
   · obtain ⟨o',e1⟩:=I.base.there b o e hx;exact ⟨o',(hs.2 b (ee3 (ec7 (Heap.lt_size e) (I.ok.cab x c hfn hc)))).trans e1⟩
   · by_cases hj:j=i
     · subst hj;rw[hi] at e1;cases e1;rw[em7 hiσ] at e2;cases e2;exact ⟨u,r,.inr ⟨.inl hk,c,hc,hc'⟩⟩
     · rw[eo0 (Ne.symm hj)] at e2;obtain ⟨u',r',q⟩:=hl j y v' e1 e2 e3;refine ⟨u',r',?_⟩
       rcases q with q|⟨k,c',e,z'⟩
       · exact .inl q
       · refine .inr ⟨k,c',e,z'.sameBut hs ?_⟩;rintro rfl;exact hj (bd2 hN e1 (I.ok.inj _ _ _ e hc▸hi))
   · by_cases hcc:c'=c
     · subst hcc;exact ⟨_,hc'⟩
     · obtain ⟨w2,z2⟩:=I.cell y c' e;exact ⟨w2,z2.sameBut hs hcc⟩
   · obtain ⟨e,n,ne,nf,d⟩:=I.pin p hp;refine ⟨(hs.2 p.1 ?_).trans e,n,ne,nf,d⟩;intro q;rw[q,hoc] at e;have q':oc=p.2:=Option.some.inj e;exact d w' (by rw[<-q'];exact hocd)
theorem ab0 {M:Model}{A:Around}{E:Value->Shared->Prop}{i:Nat}{x:Str}{v:V}{u:Value}{Q:Unit->Shared->Prop}(I:i5 X pins σ H s)(hN:X.N.Nodup)(hi:X.N[i]? =some x)(hx:Loc X.env.scope x)(r:o5 v u)
   (h:∀s',i5 X pins (σ.set i (some v)) H s'->Q () s') (hf:X.fn x=true\/X.env.scope.names.lookup x=some .local:=by first|exact .inl rfl|exact .inr rfl|assumption):wpAny M A (storeName X.env x u) Q E s:=
 bn9 I hN hi hx r (fun s' I' _=>h s' I') hf
theorem i5.call' {s':Shared}{ch:List Addr}(I:i5 X pins σ H s)(ho:s'.os=s.os)(u:Un (J6 X.stack) ch H H' s.heap s'.heap)(hok:K5 X.prog X.w H' s'.heap)(hg:AllBare s'.gens)
   (hch:∀b∈ch,(b∈X.ex\/X.s₀.heap.objs.size<=b)/\b≠X.env.locals/\(∀x c,X.env.cells.lookup x=some c->c≠b)/\∀p∈X.pn++pins,p.1≠b):i5 X pins σ H' s':=by
 obtain ⟨h',g',d',t',o'⟩:=s';have e:o'=s.os:=ho;subst e;exact I.call (g':=g') (t':=t') (d':=d') u hok hg hch
end
abbrev XK:=Value->Option Addr->Hp->Prop
abbrev St:=List (Option V)
abbrev VK:=V->Hp->Prop
abbrev TE:=St->Hp->VK->Prop
abbrev TT:=St->Hp->(Bool->Hp->Prop)->Prop
abbrev TA:=St->Hp->(List V->Hp->Prop)->Prop
structure U3 where
 nx:St->Hp->Prop
 rt:VK
 bk:St->Hp->Prop:=fun _ _=>False
 ct:St->Hp->Prop:=fun _ _=>False
abbrev TS:=U3->St->Hp->Prop
def EP (X:Cx)(pins:List (Addr×Obj))(σ:St)(Q:VK)(u:Value)(s':Shared):Prop:=∃v H',i5 X pins σ H' s'/\o5 v u/\Q v H'
def TP (X:Cx)(pins:List (Addr×Obj))(σ:St)(Q:Bool->Hp->Prop)(b:Bool)(s':Shared):Prop:=∃H',i5 X pins σ H' s'/\Q b H'
def AP (X:Cx)(pins:List (Addr×Obj))(σ:St)(Q:List V->Hp->Prop)(us:List Value)(s':Shared):Prop:=∃vs H',i5 X pins σ H' s'/\m7 vs us/\Q vs H'
def SP (X:Cx)(pins:List (Addr×Obj))(D:U3)(f:Flow)(s':Shared):Prop:=
 match f with
 | .next=>∃σ' H',i5 X pins σ' H' s'/\D.nx σ' H'
 | .brk=>∃σ' H',i5 X pins σ' H' s'/\D.bk σ' H'
 | .cont=>∃σ' H',i5 X pins σ' H' s'/\D.ct σ' H'
 | .ret u=>∃v σ' H',i5 X pins σ' H' s'/\o5 v u/\D.rt v H'
def PE (X:Cx)(e:Expr)(t:TE):Prop:=
 ∀(pins:List (Addr×Obj)) (s:Shared) (σ:St) (H:Hp) (Q:VK),i5 X pins σ H s->t σ H Q->wpAny (model X.prog X.w) X.A (eval e X.env) (EP X pins σ Q) X.xe s
def PT (X:Cx)(e:Expr)(t:TT):Prop:=
 ∀(pins:List (Addr×Obj)) (s:Shared) (σ:St) (H:Hp) (Q:Bool->Hp->Prop),i5 X pins σ H s->t σ H Q->wpAny (model X.prog X.w) X.A (isTrue e X.env (eval e X.env)) (TP X pins σ Q) X.xe s
def PW (X:Cx)(e:Expr)(t:TT):Prop:=
 ∀(whole:Sem Value) (pins:List (Addr×Obj)) (s:Shared) (σ:St) (H:Hp) (Q:Bool->Hp->Prop),i5 X pins σ H s->t σ H Q->wpAny (model X.prog X.w) X.A (isTrue e X.env whole) (TP X pins σ Q) X.xe s
theorem PW.pt {X:Cx}{e:Expr}{t:TT}(h:PW X e t):PT X e t:=h _
def PA (X:Cx)(es:List Expr)(t:TA):Prop:=
 ∀(pos:Pos) (pins:List (Addr×Obj)) (s:Shared) (σ:St) (H:Hp) (Q:List V->Hp->Prop),i5 X pins σ H s->t σ H Q->wpAny (model X.prog X.w) X.A (spliced (backTo pos (starEach es X.env))) (AP X pins σ Q) X.xe s
def PS (X:Cx)(st:Stmt)(t:TS):Prop:=
 ∀(pins:List (Addr×Obj)) (s:Shared) (σ:St) (H:Hp) (D:U3),i5 X pins σ H s->t D σ H->wpAny (model X.prog X.w) X.A (exec st X.env) (SP X pins D) X.xe s
def Z7 (X:Cx)(st:List Stmt)(t:TS):Prop:=
 ∀(pins:List (Addr×Obj)) (s:Shared) (σ:St) (H:Hp) (D:U3),i5 X pins σ H s->t D σ H->wpAny (model X.prog X.w) X.A (execs st X.env) (SP X pins D) X.xe s
theorem q0 {α:Type}{t:Sem α}{Q Q':α->Shared->Prop}{M:Model}{A:Around}{E:Value->Shared->Prop}{s:Shared}(h:wpAny M A t Q E s)(hQ:∀a s,Q a s->Q' a s):wpAny M A t Q' E s:=wpAny_mono h hQ fun _ _ x=>x
end L2
namespace L2
local macro_rules|`(tactic|omega)=>`(tactic|lia)
open PySem PySem.Spec PyProof.Rows
section
variable {X:Cx}
theorem bin {a b:Expr}{ta tb:TE}(ha:PE X a ta)(hb:PE X b tb){pins:List (Addr×Obj)}{s:Shared}{σ:St}{H:Hp}{R:V->V->Hp->Prop}(I:i5 X pins σ H s)(h:ta σ H fun x H1=>tb σ H1 fun y H2=>R x y H2)
   {α:Type} {Q:α->Shared->Prop} {f:Value->Value->Sem α}
   (hf:∀v u s2 x y H2,i5 X pins σ H2 s2->o5 x v->o5 y u->R x y H2->wpAny (model X.prog X.w) X.A (f v u) Q X.xe s2):
   wpAny (model X.prog X.w) X.A (eval a X.env) (fun v s₁=>wpAny (model X.prog X.w) X.A (eval b X.env) (fun u s₂=>wpAny (model X.prog X.w) X.A (f v u) Q X.xe s₂) X.xe s₁) X.xe s:=by
 refine q0 (ha pins s σ H _ I h) fun v s1 ⟨x,H1,I1,r1,q1⟩=> ?_
 refine q0 (hb pins s1 σ H1 _ I1 q1) fun u s2 ⟨y,H2,I2,r2,q2⟩=> ?_
 exact hf v u s2 x y H2 I2 r1 r2 q2
def di4 (i:Nat):TE:=fun σ H Q=>∃v,σ[i]? =some (some v)/\Q v H
def tC (v:V):TE:=fun _ H Q=>Q v H
theorem di5 {i:Nat}{x:Str}{pos:Pos}(hN:X.N[i]? =some x)(hv:Vis X.env.scope x)(hd:(x==("__debug__":Str))=false:=by decide)(hcd:(x==("__classdict__":Str))=false:=by decide):PE X (.Name x pos) (di4 i):=by
 intro pins s σ H Q I h;obtain ⟨v,e,h⟩:=h;obtain ⟨m,hn,hl⟩:=I.loc;obtain ⟨u,r,l⟩:=hl i x v hN e hv;have fin:EP X pins σ Q u s:=⟨v,H,I,r,h⟩
 rcases l with ⟨hk,hm⟩|⟨hk,c,hc,hcell⟩
 · exact wpAny_Name (wpAny_loadName_local I.ok.kind hk hn hm fin) hd
 · rcases hk with hk|hk
   · exact wpAny_Name (wpAny_loadName_cell I.ok.kind hk hc hcell fin) hd
   · exact wpAny_Name (wpAny_loadName_free I.ok.kind hk hc hcell fin hcd) hd
theorem g9 {i j pos}:PE X (.Constant (.int i) j pos) (tC (.int i)):=fun _ _ _ H _ I h=>wpAny_Constant_int ⟨.int i,H,I.tok _,⟨_,rfl⟩,h⟩
theorem Q3 {b j pos}:PE X (.Constant (.bool b) j pos) (tC (.bl b)):=fun _ _ _ H _ I h=>Constant_bool ⟨.bl b,H,I,rfl,h⟩
theorem am8 {j pos}:PE X (.Constant .none j pos) (tC .non):=fun _ _ _ H _ I h=>Constant_none ⟨.non,H,I,rfl,h⟩
theorem ad7 {x j pos}:PE X (.Constant (.str x) j pos) (tC (.str x)):=fun _ _ _ H _ I h=>Calls.Constant_str ⟨.str x,H,I.tok _,⟨_,rfl⟩,h⟩
def Gl (X:Cx)(x:Str):Prop:=X.env.kindOf x=some .globalImplicit
theorem am9 {E:Value->Shared->Prop}{pins:List (Addr×Obj)}{s:Shared}{σ:St}{H:Hp}{x:Str}{u:Value}{pos:Pos}{Q:Value->Shared->Prop}(I:i5 X pins σ H s)(hg:Gl X x)(hm:X.mg x=some u)(h:Q u s)
   (hd:(x==("__debug__":Str))=false:=by decide):wpAny (model X.prog X.w) X.A (eval (.Name x pos) X.env) Q E s:=
 Calls.Name_function_global I.ok.kind hg (Calls.loadGlobal_global (by rw[I.ok.glob];exact I.mod.glob.keeps I.bk) hm h) hd
theorem an0 {E:Value->Shared->Prop}{pins:List (Addr×Obj)}{s:Shared}{σ:St}{H:Hp}{x:Str}{u:Value}{pos:Pos}{Q:Value->Shared->Prop}(I:i5 X pins σ H s)(hg:Gl X x)(hm:X.mg x=none)(hv:bootBuiltins x=some u)(h:Q u s)
   (hn:x≠"__name__":=by decide) (hd:(x==("__debug__":Str))=false:=by decide):wpAny (model X.prog X.w) X.A (eval (.Name x pos) X.env) Q E s:=by
 obtain ⟨mb,h1,h2⟩:=I.mod.blt;exact Calls.Name_function_global I.ok.kind hg (Calls.loadGlobal_builtin (by rw[I.ok.glob];exact I.mod.glob.keeps I.bk) hm (by rw[I.ok.blt];exact h1.keeps I.bk) ((h2 x hn).trans hv) h) hd
theorem O2 {x:Str}{v:V}{u:Value}{pos:Pos}(hg:Gl X x)(hm:X.mg x=some u)(r:o5 v u)(hd:(x==("__debug__":Str))=false:=by decide):PE X (.Name x pos) (tC v):=
 fun _ _ _ H _ I h=>am9 I hg hm ⟨v,H,I,r,h⟩ hd
theorem az8 {x:Str}{v:V}{u:Value}{pos:Pos}(hg:Gl X x)(hm:X.mg x=none)(hv:bootBuiltins x=some u)(r:o5 v u)(hn:x≠"__name__":=by decide)(hd:(x==("__debug__":Str))=false:=by decide):PE X (.Name x pos) (tC v):=
 fun _ _ _ H _ I h=>an0 I hg hm hv ⟨v,H,I,r,h⟩ hn hd
variable {a b:Expr} {ta tb:TE} {pos:Pos}
def PC (X:Cx)(op:CmpOp)(a b:Expr)(t:TE):Prop:=
 ∀(pins:List (Addr×Obj)) (s:Shared) (σ:St) (H:Hp) (Q:VK),i5 X pins σ H s->t σ H Q->
  wpAny (model X.prog X.w) X.A (eval a X.env) (fun v s₁=>wpAny (model X.prog X.w) X.A (eval b X.env) (fun u s₂=>wpAny (model X.prog X.w) X.A (compareOp op v u) (EP X pins σ Q) X.xe s₂) X.xe s₁) X.xe s
def tB (t:TE):TT:=fun σ H Q=>t σ H fun x H1=>∃c,x= .bl c/\Q c H1
theorem bg3 {op:CmpOp}{t:TE}(h:PC X op a b t)(h1:behindInMarks op b=false:=by first|exact nobehind _ (by decide) (by decide)|rfl):PT X (.Compare a [op] [b] pos) (tB t):=by
 intro pins s σ H Q I hw;refine wpAny_isTrue_Compare1 (q0 (h pins s σ H _ I hw) fun v s1 h1=>q0 h1 fun u s2 h2=>q0 h2 fun c s3 ⟨x,H1,I1,r1,q1⟩=> ?_) h1;obtain ⟨d,rfl,q⟩:=q1;cases r1;exact wpAny_truthy_bool ⟨H1,I1,q⟩
theorem S6 {e:Expr}{t:TE}(h:PE X e t)(he:∀whole,isTrue e X.env whole=(do let v <-whole;standAt e.pos;holding [v] (truthy v)):=by intro _;rfl):PT X e (tB t):=by
 intro pins s σ H Q I hw;refine isTrue_plain (q0 (h pins s σ H _ I hw) fun v s1 ⟨x,H1,I1,r1,q1⟩=> ?_) (he _);obtain ⟨d,rfl,q⟩:=q1;cases r1;exact wpAny_truthy_bool ⟨H1,I1,q⟩
variable {tA tB':TT} {rest:List Expr}
def du5 (t u:TT):TT:=fun σ H Q=>t σ H fun c H1=>if c=true then u σ H1 Q else Q false H1
def tOr (t u:TT):TT:=fun σ H Q=>t σ H fun c H1=>if c=true then Q true H1 else u σ H1 Q
def du6 (t:TT):TT:=fun σ H Q=>t σ H fun c H1=>Q (!c) H1
theorem dc0 (ha:PT X a tA):PW X (.BoolOp .And [a] pos) tA:=by
 intro wh pins s σ H Q I h;refine isTrue_and (q0 (ha pins s σ H Q I h) fun c s1 e=> ?_)
 cases c with
 |true=>exact isTrue_and_nil e
 |false=>exact e
theorem Z8 (ha:PT X a tA):PW X (.BoolOp .Or [a] pos) tA:=by
 intro wh pins s σ H Q I h;refine isTrue_or (q0 (ha pins s σ H Q I h) fun c s1 e=> ?_)
 cases c with
 |false=>exact isTrue_or_nil e
 |true=>exact e
theorem di6 (ha:PT X a tA)(hb:PW X (.BoolOp .And (b::rest) pos) tB'):PW X (.BoolOp .And (a::b::rest) pos) (du5 tA tB'):=by
 intro wh pins s σ H Q I h;refine isTrue_and (q0 (ha pins s σ H _ I h) fun c s1 ⟨H1,I1,q1⟩=> ?_)
 cases c with
 |true=>exact hb wh pins s1 σ H1 Q I1 q1
 |false=>exact ⟨H1,I1,q1⟩
theorem Q4 (ha:PT X a tA)(hb:PW X (.BoolOp .Or (b::rest) pos) tB'):PW X (.BoolOp .Or (a::b::rest) pos) (tOr tA tB'):=by
 intro wh pins s σ H Q I h;refine isTrue_or (q0 (ha pins s σ H _ I h) fun c s1 ⟨H1,I1,q1⟩=> ?_)
 cases c with
 |true=>exact ⟨H1,I1,q1⟩
 |false=>exact hb wh pins s1 σ H1 Q I1 q1
theorem U9 (ha:PT X a tA):PT X (.UnaryOp .Not a pos) (du6 tA):=by
 intro pins s σ H Q I h;exact isTrue_not (ha pins s σ H (fun c H1=>Q (!c) H1) I h)
def dp1 (ta tb:TE):TE:=fun σ H Q=>ta σ H fun x H1=>∃c,x= .bl c/\if c=true then tb σ H1 Q else Q (.bl false) H1
def dp2 (ta:TE):TE:=fun σ H Q=>ta σ H fun x H1=>∃c,x= .bl c/\Q (.bl (!c)) H1
theorem bu2 {op}{t:TE}(h:PE X a t):PE X (.BoolOp op [a] pos) t:=fun pins s σ H Q I hw=>BoolOp_one (h pins s σ H Q I hw)
theorem bu3 (ha:PE X a ta)(hb:PE X (.BoolOp .And (b::rest) pos) tb):PE X (.BoolOp .And (a::b::rest) pos) (dp1 ta tb):=by
 intro pins s σ H Q I h;refine BoolOp_and (q0 (ha pins s σ H _ I h) fun v s1 ⟨x,H1,I1,r1,q1⟩=> ?_);obtain ⟨c,rfl,q1⟩:=q1;cases r1;refine wpAny_truthy_bool ?_
 cases c with
 |true=>exact hb pins s1 σ H1 Q I1 q1
 |false=>exact ⟨.bl false,H1,I1,rfl,q1⟩
theorem di7 (ha:PE X a ta):PE X (.UnaryOp .Not a pos) (dp2 ta):=by
 intro pins s σ H Q I h;refine UnaryOp_ (q0 (ha pins s σ H _ I h) fun v s1 ⟨x,H1,I1,r1,q1⟩=> ?_);obtain ⟨c,rfl,q1⟩:=q1;cases r1;exact not_of (wpAny_truthy_bool ⟨.bl (!c),H1,I1,rfl,q1⟩)
end
end L2
namespace L2
local macro_rules|`(tactic|omega)=>`(tactic|lia)
open PySem PySem.Spec PyProof.Rows
def h8 (K:PySem.W.Frag)(H:Hp)(a:Addr)(xs:List V):Prop:=
 Rd H a (.lst xs)\/
   ∃(o:Obj) (its:Array Value) (n:Nat),K.lookup a=some o/\o.cls= .type "list"/\o.dict=none/\o.data= .seq its n/\its.size<=sizeLine/\m7 xs its.toList
def O3 (K:PySem.W.Frag)(H:Hp)(a:Addr)(xs:List V):Prop:=
 Rd H a (.tup xs)\/
   ∃(o:Obj) (its:Array Value) (n:Nat),K.lookup a=some o/\o.cls= .type "tuple"/\o.data= .seq its n/\its.size<=sizeLine/\m7 xs its.toList
def du7:Value->Option V
 | .none=>some .non
 | .bool b=>some (.bl b)
 | .int i _=>some (.int i)
 | .str x _=>some (.str x)
 | .bytes b _=>some (.byt b)
 | .float b _=>some (.flt b)
 | .ref a=>some (.ref a)
 | .type n=>some (.ty n)
 |_=>none
theorem o5.abs {x:V}{u:Value}(r:o5 x u):du7 u=some x:=by
 cases x with
 |non=>cases r;rfl
 |bl _=>cases r;rfl
 |int _=>obtain ⟨t,rfl⟩:=r;rfl
 |str _=>obtain ⟨t,rfl⟩:=r;rfl
 |byt _=>obtain ⟨t,rfl⟩:=r;rfl
 |flt _=>obtain ⟨t,rfl⟩:=r;rfl
 |ref _=>cases r;rfl
 |ty _=>cases r;rfl
theorem o5.inj {x y:V}{u:Value}(r:o5 x u)(q:o5 y u):x=y:=Option.some.inj (r.abs.symm.trans q.abs)
theorem m7.inj:∀{xs ys:List V} {us:List Value},m7 xs us->m7 ys us->xs=ys
 |_,_,_,.nil,.nil=>rfl
 |_,_,_,.cons r t,.cons r' t'=>by rw[r.inj r',m7.inj t t']
section
variable {X:Cx} {pins:List (Addr×Obj)} {σ:St} {H:Hp} {s:Shared} {a:Addr} {xs ys:List V}
theorem h8.of {K:PySem.W.Frag}(h:H a=some (.lst xs)):h8 K H a xs:= .inl (.inl h)
theorem O3.of {K:PySem.W.Frag}(h:H a=some (.tup xs)):O3 K H a xs:= .inl (.inl h)
theorem i5.list (I:i5 X pins σ H s)(h:h8 X.K H a xs):∃its:List Value,m7 xs its/\PlainL s.heap a its.toArray/\xs.length<=sizeLine:=by
 rcases h with h|⟨o,its,n,hk,hc,hd,hs,hz,r⟩
 · obtain ⟨z,its,n,r,e⟩:=h.ok I.hok;exact ⟨its,r,⟨_,n,e,rfl,rfl,rfl⟩,z⟩
 · refine ⟨its.toList,r,⟨o,n,I.kIn a o hk,hc,hd,by simpa using hs⟩,?_⟩;have e:=r.length;simp only[ec0] at e;omega
theorem i5.tuple (I:i5 X pins σ H s)(h:O3 X.K H a xs):∃its:List Value,m7 xs its/\IsTup s.heap a its.toArray/\xs.length<=sizeLine:=by
 rcases h with h|⟨o,its,n,hk,hc,hs,hz,r⟩
 · obtain ⟨z,its,r,p⟩:=h.ok I.hok;exact ⟨its,r,p,z⟩
 · refine ⟨its.toList,r,⟨o,I.kIn a o hk,hc,n,by simpa using hs⟩,?_⟩;have e:=r.length;simp only[ec0] at e;omega
theorem i5.list_inj (I:i5 X pins σ H s)(h:h8 X.K H a xs)(h':h8 X.K H a ys):xs=ys:=by
 obtain ⟨its,r,⟨o,n,e,_,_,d⟩,_⟩:=I.list h;obtain ⟨its',r',⟨o',n',e',_,_,d'⟩,_⟩:=I.list h';rw[e] at e';cases e';rw[d] at d'
 injection d' with d1 _
 have:its=its':=by simpa using congrArg ef9 d1
 subst this;exact r.inj r'
theorem i5.tuple_inj (I:i5 X pins σ H s)(h:O3 X.K H a xs)(h':O3 X.K H a ys):xs=ys:=by
 obtain ⟨its,r,⟨o,e,_,n,d⟩,_⟩:=I.tuple h;obtain ⟨its',r',⟨o',e',_,n',d'⟩,_⟩:=I.tuple h';rw[e] at e';cases e';rw[d] at d'
 injection d' with d1 _
 have:its=its':=by simpa using congrArg ef9 d1
 subst this;exact r.inj r'
end
abbrev Cx.wish (X:Cx)(E:Value->Shared->Prop):Cx:={X with xe:=E}
abbrev Cx.nox (X:Cx):Cx:=X.wish fun _ _=>False
theorem Cx.Ok.wish {X:Cx}(ok:X.Ok)(E:Value->Shared->Prop):(X.wish E).Ok:=
 ⟨ok.mod,ok.kind,ok.glob,ok.blt,ok.above,ok.inj,ok.has,ok.cab,ok.hd,ok.frames,ok.stk,ok.exf,ok.bs,ok.bsz,ok.noex,ok.exfs,ok.funs,ok.frf⟩
theorem Cx.Ok.unwish {X:Cx}{E:Value->Shared->Prop}(ok:(X.wish E).Ok):X.Ok:=
 ⟨ok.mod,ok.kind,ok.glob,ok.blt,ok.above,ok.inj,ok.has,ok.cab,ok.hd,ok.frames,ok.stk,ok.exf,ok.bs,ok.bsz,ok.noex,ok.exfs,ok.funs,ok.frf⟩
section
variable {X:Cx} {pins:List (Addr×Obj)} {σ:St} {H:Hp} {s:Shared} {E:Value->Shared->Prop}
theorem i5.wish (I:i5 X pins σ H s)(E:Value->Shared->Prop):i5 (X.wish E) pins σ H s:=⟨I.ok.wish E,I.os,I.bare,I.base,I.loc,I.cell,I.free,I.freeC,I.pin,I.hok,I.len⟩
theorem i5.unwish (I:i5 (X.wish E) pins σ H s):i5 X pins σ H s:=⟨I.ok.unwish,I.os,I.bare,I.base,I.loc,I.cell,I.free,I.freeC,I.pin,I.hok,I.len⟩
theorem SP.unwish {D:U3}{f:Flow}{s':Shared}(h:SP (X.wish E) pins D f s'):SP X pins D f s':=by
 cases f with
 |next=>obtain ⟨σ',H',I,q⟩:=h;exact ⟨σ',H',I.unwish,q⟩
 |brk=>obtain ⟨σ',H',I,q⟩:=h;exact ⟨σ',H',I.unwish,q⟩
 |cont=>obtain ⟨σ',H',I,q⟩:=h;exact ⟨σ',H',I.unwish,q⟩
 |ret u=>obtain ⟨v,σ',H',I,r,q⟩:=h;exact ⟨v,σ',H',I.unwish,r,q⟩
theorem Z7.nox {st:List Stmt}{t:TS}(h:Z7 X.nox st t):Z7 X st t:=fun pins s σ H D I hw=>
 wpAny_mono (h pins s σ H D (I.wish _) hw) (fun _ _ q=>q.unwish) fun _ _ z=>False.elim z
end
section
variable {X:Cx} {st:Stmt} {rest:List Stmt} {t u:TS} {e:Expr} {te:TE} {pos:Pos}
def dp3:TS:=fun D σ H=>D.nx σ H
def t7 (t u:TS):TS:=fun D σ H=>t {D with nx:=u D} σ H
theorem o4:Z7 X [] dp3:=fun _ _ σ H _ I h=>wpAny_execs_nil ⟨σ,H,I,h⟩
theorem c7 (h1:PS X st t)(h2:Z7 X rest u):Z7 X (st::rest) (t7 t u):=by
 intro pins s σ H D I h;refine wpAny_execs_cons (q0 (h1 pins s σ H {D with nx:=u D} I h) fun f s1 q=> ?_)
 cases f with
 |next=>
  obtain ⟨σ',H',I',q⟩:=q;exact h2 pins s1 σ' H' D I' q
 |ret v=>exact q
 |brk=>exact q
 |cont=>exact q
theorem g6 (h1:PS X st t):Z7 X [st] t:=by
 intro pins s σ H D I h;refine wpAny_execs_cons (q0 (h1 pins s σ H D I h) fun f s1 q=> ?_)
 cases f with
 |next=>exact wpAny_execs_nil q
 |ret v=>exact q
 |brk=>exact q
 |cont=>exact q
theorem i5.quiet {pins:List (Addr×Obj)}{σ:St}{H:Hp}{s:Shared}(I:i5 X pins σ H s):interactive X.env=false:=by simp [interactive,I.ok.kind]
def dp4 (te:TE):TS:=fun D σ H=>te σ H fun _ H1=>D.nx σ H1
theorem y6 (he:PE X e te)(hs:swapsWith e none pos.line X.env=pure false:=by rfl):PS X (.Expr e pos) (dp4 te):=by
 intro pins s σ H D I h;exact wpAny_Expr_any (q0 (he pins s σ H _ I h) fun v s1 ⟨x,H1,I1,r1,q1⟩=>⟨σ,H1,I1,q1⟩) I.quiet hs
def du8 (te:TE):TS:=fun D σ H=>te σ H D.rt
theorem l8 (he:PE X e te):PS X (.Return (some e) pos) (du8 te):=by
 intro pins s σ H D I h;exact wpAny_Return_some (q0 (he pins s σ H _ I h) fun v s1 ⟨x,H1,I1,r1,q1⟩=>⟨x,σ,H1,I1,r1,q1⟩)
def du9 (c:TT)(t u:TS):TS:=fun D σ H=>c σ H fun b H1=>if b=true then t D σ H1 else u D σ H1
theorem B5 {c:Expr}{a b:List Stmt}{tc:TT}(hc:PT X c tc)(ha:Z7 X a t)(hb:Z7 X b u):PS X (.If c a b pos) (du9 tc t u):=by
 intro pins s σ H D I h;refine wpAny_If (q0 (hc pins s σ H _ I h) fun d s1 ⟨H1,I1,q1⟩=> ?_)
 cases d with
 |true=>exact ha pins s1 σ H1 D I1 q1
 |false=>exact hb pins s1 σ H1 D I1 q1
def cm3:TS:=fun _ _ _=>False
theorem ab1:PS X st cm3:=fun _ _ _ _ _ _ h=>h.elim
theorem av6 {sts:List Stmt}:Z7 X sts cm3:=fun _ _ _ _ _ _ h=>h.elim
end
abbrev TG:=V->St->Hp->(St->Hp->Prop)->Prop
abbrev TGs:=List V->St->Hp->(St->Hp->Prop)->Prop
def PG (X:Cx)(target:Expr)(t:TG):Prop:=
 ∀(pins:List (Addr×Obj)) (s:Shared) (σ:St) (H:Hp) (v:V) (u:Value) (Q:St->Hp->Prop),i5 X pins σ H s->o5 v u->t v σ H Q->
  wpAny (model X.prog X.w) X.A (assign target X.env u) (fun _ s'=>∃σ' H',i5 X pins σ' H' s'/\Q σ' H') X.xe s
def PGs (X:Cx)(ts:List Expr)(t:TGs):Prop:=
 ∀(pins:List (Addr×Obj)) (s:Shared) (σ:St) (H:Hp) (vs:List V) (us:List Value) (Q:St->Hp->Prop),i5 X pins σ H s->m7 vs us->t vs σ H Q->
  wpAny (model X.prog X.w) X.A (assignInOrder ((assignEach ts X.env).map (·.2)) us) (fun _ s'=>∃σ' H',i5 X pins σ' H' s'/\Q σ' H') X.xe s
abbrev cu6:=V->V->V->Hp->(Hp->Prop)->Prop
def di8 (X:Cx)(t:cu6):Prop:=
 ∀(pins:List (Addr×Obj)) (s:Shared) (σ:St) (H:Hp) (o i v:V) (ov iv u:Value) (Q:Hp->Prop),i5 X pins σ H s->o5 o ov->o5 i iv->o5 v u->t o i v H Q->
  wpAny (model X.prog X.w) X.A (setItem ov iv u) (fun _ s'=>∃H',i5 X pins σ H' s'/\Q H') X.xe s
section
variable {X:Cx} {pos:Pos}
def bt0 (i:Nat):TG:=fun v σ H Q=>Q (σ.set i (some v)) H
theorem j6 {i:Nat}{x:Str}(hN:X.N.Nodup)(hi:X.N[i]? =some x)(hx:Loc X.env.scope x)(hf:X.fn x=true\/X.env.scope.names.lookup x=some .local:=by first|exact .inl rfl|exact .inr rfl|assumption):PG X (.Name x pos) (bt0 i):=by
 intro pins s σ H v u Q I r h;exact wpAny_assign_Name (ab0 I hN hi hx r (fun s' I'=>⟨_,H,I',h⟩) hf)
def dv0:TGs:=fun vs σ H Q=>vs=[]/\Q σ H
def dp5 (t:TG)(u:TGs):TGs:=fun vs σ H Q=>∃v r,vs=v::r/\t v σ H fun σ' H'=>u r σ' H' Q
theorem S9:PGs X [] dv0:=by
 intro pins s σ H vs us Q I r h;obtain ⟨e,h⟩:=h;subst e;cases r;exact assignInOrder_nil ⟨σ,H,I,h⟩
theorem C4 {e:Expr}{es:List Expr}{t:TG}{u:TGs}(h1:PG X e t)(h2:PGs X es u)
   (hs:(assignEach (e::es) X.env).map (·.2)=assign e X.env::(assignEach es X.env).map (·.2):=by rfl):PGs X (e::es) (dp5 t u):=by
 intro pins s σ H vs us Q I r h;obtain ⟨v,vr,e1,h⟩:=h;subst e1
 cases r with
 |cons r rr=>
  rw[hs];refine assignInOrder_cons (q0 (h1 pins s σ H _ _ _ I r h) fun _ s1 ⟨σ1,H1,I1,q1⟩=> ?_);exact h2 pins s1 σ1 H1 _ _ Q I1 rr q1
def dv3 (K:PySem.W.Frag)(n:Nat)(t:TGs):TG:=fun v σ H Q=>∃a xs,v= .ref a/\O3 K H a xs/\xs.length=n/\t xs σ H Q
theorem X2 {es:List Expr}{k:Nat}{t:TGs}{n:Nat}(hc:X.calm=true)(h:PGs X es t)
   (hn:(assignEach es X.env).length=n:=by rfl) (hst:(assignEach es X.env).findIdx? (·.1)=none:=by rfl):PG X (.Tuple es k pos) (dv3 X.K n t):=by
 intro pins s σ H v u Q I r hw;obtain ⟨a,xs,e1,hq,hl,hw⟩:=hw;subst e1;cases r;obtain ⟨its,rv,ht,hz⟩:=I.tuple hq
 refine assign_Tuple_tuple (I.ok.hd hc) ht (by simp [hn,<-hl,rv.length]) hst fun h' hx=> ?_
 have I1:i5 X pins σ H {s with heap:=h'}:=I.kept (t':=s.toks) fun b o e=>hx b o (ee3 (Heap.lt_size e)) e
 exact h pins _ σ H xs _ Q I1 (by simpa using rv) hw
def dv4 (to ti:TE)(t:cu6):TG:=fun v σ H Q=>to σ H fun o H1=>ti σ H1 fun i H2=>t o i v H2 fun H3=>Q σ H3
theorem av8 {o i:Expr}{to ti:TE}{t:cu6}(ho:PE X o to)(hi:PE X i ti)(hs:di8 X t)
   (ha:∀v,assign (.Subscript o i pos) X.env v=(do
     let ov <-holding [v] (eval o X.env)
     let iv <-holding [v,ov] (eval i X.env)
     standAt pos
     holding [v,ov,iv] (setItem ov iv v)
     release [v,ov,iv] []):=by intro _;rfl):PG X (.Subscript o i pos) (dv4 to ti t):=by
 intro pins s σ H v u Q I r h;rw[ha];refine wpAny_bind (wpAny_holding (q0 (ho pins s σ H _ I h) fun ov s1 ⟨x,H1,I1,r1,q1⟩=> ?_));refine wpAny_bind (wpAny_holding (q0 (hi pins s1 σ H1 _ I1 q1) fun iv s2 ⟨y,H2,I2,r2,q2⟩=> ?_));refine wpAny_bind (wpAny_standAt (wpAny_bind (wpAny_holding (q0 (hs pins s2 σ H2 x y v ov iv u _ I2 r1 r2 r q2) fun _ s3 ⟨H3,I3,q3⟩=> ?_))));exact wpAny_release ⟨σ,H3,I3,q3⟩
def ci4 (te:TE)(g:TG):TS:=fun D σ H=>te σ H fun x H1=>g x σ H1 D.nx
theorem an1 {tg e:Expr}{te:TE}{g:TG}(he:PE X e te)(hg:PG X tg g)(hs:swapsWithSole [tg] e pos.line X.env=pure false:=by rfl)(hw:swappedStores [tg] e X.env=pure none:=by rfl)
   (h1:(assignEach [tg] X.env).map (·.2)=[assign tg X.env]:=by rfl):PS X (.Assign [tg] e pos) (ci4 te g):=by
 intro pins s σ H D I h;refine wpAny_Assign_stores (q0 (he pins s σ H _ I h) fun v s1 ⟨x,H1,I1,r1,q1⟩=> ?_) hs hw;rw[h1]
 exact q0 (hg pins s1 σ H1 x v _ I1 r1 q1) fun _ s2 q=>q
theorem i4 {i:Nat}{x:Str}{e:Expr}{te:TE}{pos':Pos}(hN:X.N.Nodup)(hi:X.N[i]? =some x)(hx:Loc X.env.scope x)(he:PE X e te)(hs:swapsWith e (some (.Name x pos')) pos.line X.env=pure false:=by rfl)(hf:X.fn x=true\/X.env.scope.names.lookup x=some .local:=by first|exact .inl rfl|exact .inr rfl|assumption):
   PS X (.Assign [.Name x pos'] e pos) (ci4 te (bt0 i)):=by
 intro pins s σ H D I h;refine wpAny_Assign_Name (q0 (he pins s σ H _ I h) fun v s1 ⟨y,H1,I1,r1,q1⟩=> ?_) hs;exact ab0 I1 hN hi hx r1 (fun s2 I2=>⟨_,H1,I2,q1⟩) hf
def dv5 (i j:Nat)(ta:TA):TS:=fun D σ H=>ta σ H fun vs H1=>∃v w,vs=[v,w]/\D.nx ((σ.set i (some v)).set j (some w)) H1
theorem di9 {i j:Nat}{x y:Str}{a b:Expr}{ta:TA}{px py pt:Pos}{kt k2 pt2}(hc:X.calm=true)(hN:X.N.Nodup)(hi:X.N[i]? =some x)(hj:X.N[j]? =some y)(hij:i≠j)
   (hx:X.env.scope.names.lookup x=some .local) (hy:X.env.scope.names.lookup y=some .local) (ha:PA X [a,b] ta)
   (hw:swappedStores [.Tuple [.Name x px,.Name y py] kt pt] (.Tuple [a,b] k2 pt2) X.env=pure (some [x,y]))
   (hs:swapsWithSole [.Tuple [.Name x px,.Name y py] kt pt] (.Tuple [a,b] k2 pt2) pos.line X.env=pure false:=by rfl):
   PS X (.Assign [.Tuple [.Name x px,.Name y py] kt pt] (.Tuple [a,b] k2 pt2) pos) (dv5 i j ta):=by
 intro pins s σ H D I h;rw[exec_Assign_arm];refine wpAny_bind (wpAny_standAt ?_);rw[hs];refine wpAny_bind (wpAny_pure ?_);rw[if_neg (by decide)];refine wpAny_bind (Tuple_ (q0 (ha _ pins s σ H _ I h) fun us s1 ⟨vs,H1,I1,r1,q1⟩=> ?_));obtain ⟨v,w,e1,q1⟩:=q1;subst e1
 obtain ⟨u1,u2,rfl,rv,rw'⟩:∃u1 u2,us=[u1,u2]/\o5 v u1/\o5 w u2:=by
   cases r1 with
   |cons p q=>
    cases q with
    |cons p' q'=>
     cases q';exact ⟨_,_,rfl,p,p'⟩
 refine wpAny_newObj_type ?_ (by show 2<=sizeLine;decide)
 have I2:i5 X pins σ H1 {s1 with heap:=s1.heap.push {cls:= .type "tuple",data:= .seq [u1,u2].toArray}}:=I1.kept (t':=s1.toks) fun b o e=>Heap.get?_push_of_some _ e
 rw[hw];refine wpAny_bind (wpAny_pure ?_);show wpAny (model X.prog X.w) X.A (do rule "assign.swapped-stores";let items <-unpackItems (.ref s1.heap.objs.size) 2 none;assignInOrder [fun v=>bindName X.env y v,fun v=>bindName X.env x v] items.reverse;pure Flow.next) _ _ _;refine wpAny_bind (wpAny_rule (wpAny_bind (unpackItems_tuple (items:= #[u1,u2]) (I.ok.hd hc) (IsTup.new s1.heap _) fun h' hx'=> ?_)))
 have I3:=I2.kept (h':=h') (t':=s1.toks) fun b o e=>hx' b o (ee3 (Heap.lt_size e)) e
 show wpAny _ _ (assignInOrder [fun v=>bindName X.env y v,fun v=>bindName X.env x v] [u2,u1] >>=fun _=>pure Flow.next) _ _ _;refine wpAny_bind (assignInOrder_cons (wpAny_bindName (ab0 I3 hN hj (.inl hy) rw' (fun s2 I4=> ?_) (.inr hy))));refine assignInOrder_cons (wpAny_bindName (ab0 I4 hN hi (.inl hx) rv (fun s3 I5=>assignInOrder_nil (wpAny_pure ?_)) (.inr hx)));rw[List.set_comm _ _ (Ne.symm hij)] at I5;exact ⟨_,H1,I5,q1⟩
end
section
variable {X:Cx} {pos:Pos}
def cm4 (c:TT)(tb:TS):TS:=fun D σ H=>∃W:Nat->St->Hp->Prop,(∃m,W m σ H)/\∀m σ H,W m σ H->
 c σ H fun b H1=>if b=true then ∃N:St->Hp->Prop,(∀σ' H',N σ' H'->∃m',m' < m/\W m' σ' H')/\tb {D with nx:=N,ct:=N,bk:=D.nx} σ H1 else D.nx σ H1
theorem ab2 {c:Expr}{body:List Stmt}{tc:TT}{tb:TS}(hp:PassesOwn (model X.prog X.w) X.A X.env X.xe)(hc:PT X c tc)(hb:Z7 X body tb):PS X (.While c body [] pos) (cm4 tc tb):=by
 intro pins s σ H D I h;obtain ⟨W,⟨m0,w0⟩,turn⟩:=h;refine wpAny_While (codeAny_whileLoop (fun n s'=>∃σ' H',i5 X pins σ' H' s'/\W n σ' H') ?_ m0 ⟨σ,H,I,w0⟩);rintro n s1 ⟨σ1,H1,I1,w1⟩;refine wpAny_passesOwn hp (q0 (hc pins s1 σ1 H1 _ I1 (turn n σ1 H1 w1)) fun b s2 ⟨H2,I2,q2⟩=> ?_)
 cases b with
 |true=>
  obtain ⟨N,hN,q2⟩:=q2;rw[if_pos rfl];refine wpAny_passesOwn hp (q0 (hb pins s2 σ1 H2 _ I2 q2) fun f s3 q3=> ?_)
  cases f with
  |next=>
   obtain ⟨σ3,H3,I3,n3⟩:=q3;obtain ⟨m',hm,w3⟩:=hN σ3 H3 n3;exact ⟨m',hm,σ3,H3,I3,w3⟩
  |cont=>
   obtain ⟨σ3,H3,I3,n3⟩:=q3;obtain ⟨m',hm,w3⟩:=hN σ3 H3 n3;exact ⟨m',hm,σ3,H3,I3,w3⟩
  |brk=>exact q3
  |ret v=>exact q3
 |false=>
  rw[if_neg eb1];exact wpAny_execs_nil ⟨σ1,H2,I2,q2⟩
end
structure It where
 go:Nat->Hp->Prop
 yld:Nat->Hp->V->Hp->Prop
 stop:Nat->Hp->Prop
def av9 (X:Cx)(pins:List (Addr×Obj))(H:Hp)(b:Addr):Prop:=
 H b=none/\b≠X.env.locals/\b∉X.fs/\(b∈X.ex\/X.s₀.heap.objs.size<=b)/\(∀x c,X.env.cells.lookup x=some c->c≠b)/\∀p∈X.pn++pins,p.1≠b
theorem i5.fpOk {X:Cx}{pins:List (Addr×Obj)}{σ:St}{H H':Hp}{s:Shared}{b:Addr}(I:i5 X pins σ H s)(hb:s.heap.objs.size<=b)(hn:H' b=none):av9 X pins H' b:=by
 refine ⟨hn,Nat.ne_of_gt (ec7 I.lt hb),I.nofs hb,.inr (ea4 I.sz hb),fun x c e z=> ?_,fun p hp z=> ?_⟩
 · obtain ⟨v,q⟩:=I.cell x c e;exact absurd (ec7 q.lt (by rw[z];exact hb)) (ek3 _)
 · exact absurd (ec7 (Heap.lt_size (I.pin p hp).1) (by rw[z];exact hb)) (ek3 _)
structure bk8 (P:Program)(w:World)(K:PySem.W.Frag)(tg:Expr)(J:It)(fp:List Addr)(it:Addr)(tn:Nat->Heap->Prop):Prop where
 mem:it∈fp
 obj:∀i h,tn i h->∀b∈fp,∃o,h.get? b=some o/\∀v,o.data≠.cell v
 keep:∀i h h',tn i h->(∀b∈fp,∀o,h.get? b=some o->h'.get? b=some o)->tn i h'
 item:∀(X:Cx),X.prog=P->X.w=w->X.K=K->X.calm=true->∀(i:Nat) (pins:List (Addr×Obj)) (s:Shared) (σ:St) (H:Hp) (E:Value->Shared->Prop),i5 X pins σ H s->(∀b∈fp,av9 X pins H b)->tn i s.heap->J.go i H->
   wpAny (model P w) X.A (pyNext (.ref it)) (fun r s1=>∃u,r=some u/\
     wpAny (model P w) X.A (letOwnedTupleGo tg (.ref it) u) (fun _ s2=>∃x H',i5 X pins σ H' s2/\o5 x u/\J.yld i H x H'/\tn (i+1) s2.heap/\∀b∈fp,H' b=none) E s1) E s
 done:∀(X:Cx),X.prog=P->X.w=w->X.K=K->X.calm=true->∀(i:Nat) (pins:List (Addr×Obj)) (s:Shared) (σ:St) (H:Hp) (E:Value->Shared->Prop),i5 X pins σ H s->(∀b∈fp,av9 X pins H b)->tn i s.heap->J.stop i H->
   wpAny (model P w) X.A (pyNext (.ref it)) (fun r s1=>r=none/\i5 X pins σ H s1) E s
 self:∀(A:Around) (i:Nat) (s:Shared) (Q:Value->Shared->Prop) (E:Value->Shared->Prop),tn i s.heap->Q (.ref it) s->wpAny (model P w) A (pyIter (.ref it)) Q E s
abbrev TI:=St->Hp->(It->Hp->Prop)->Prop
def PIE (X:Cx)(pins:List (Addr×Obj))(σ:St)(tg:Expr)(R:It->Hp->Prop)(itv:Value)(s2:Shared):Prop:=
 ∃(it:Addr) (fp:List Addr) (tn:Nat->Heap->Prop) (J:It) (H':Hp),itv= .ref it/\i5 X pins σ H' s2/\bk8 X.prog X.w X.K tg J fp it tn/\tn 0 s2.heap/\(∀b∈fp,av9 X pins H' b)/\R J H'
def PI (X:Cx)(tg iter:Expr)(wi:TI):Prop:=
 ∀(pins:List (Addr×Obj)) (s:Shared) (σ:St) (H:Hp) (R:It->Hp->Prop),i5 X pins σ H s->wi σ H R->
  wpAny (model X.prog X.w) X.A (eval iter X.env) (fun v s1=>wpAny (model X.prog X.w) X.A (pyIter v) (PIE X pins σ tg R) X.xe s1) X.xe s
theorem bt1 {M:Model}{A:Around}{E:Value->Shared->Prop}{s:Shared}{tg:Expr}{it:Addr}{u:Value}{o:Obj}{n:String}{vs:Array Value}{Q:Unit->Shared->Prop}(ho:s.heap.get? it=some o)(hc:o.cls= .type n)(hd:o.data= .fields vs)
   (hn:["enumerate","zip","dict_itemiterator","dict_reverseitemiterator","odict_iterator","itertools.zip_longest","itertools.pairwise"].contains n=false) (hQ:Q () s):wpAny M A (letOwnedTupleGo tg (.ref it) u) Q E s:=by
 unfold letOwnedTupleGo
 cases tg<;>first
   |exact wpAny_pure hQ
   |(cases u<;>first
       |exact wpAny_pure hQ
       |(refine wpAny_bind (wpAny_load ho ?_)
         rw[hc,hd];show wpAny M A (if (["enumerate","zip","dict_itemiterator","dict_reverseitemiterator","odict_iterator","itertools.zip_longest","itertools.pairwise"].contains n&&vs[0]? ==some (rawInt _))=true then _ else _) Q E s;rw[if_neg (by intro h;rw[hn,Bool.false_and] at h;cases h)]
         exact wpAny_pure hQ))
def Itl (K:PySem.W.Frag)(a:Addr):It:=
 ⟨fun i H=>∃xs x,h8 K H a xs/\xs[i]? =some x,fun i H x H'=>H'=H/\∀xs,h8 K H a xs->xs[i]? =some x,fun i H=>∃xs,h8 K H a xs/\xs.length<=i⟩
def Itt (K:PySem.W.Frag)(a:Addr):It:=
 ⟨fun i H=>∃xs x,O3 K H a xs/\xs[i]? =some x,fun i H x H'=>H'=H/\∀xs,O3 K H a xs->xs[i]? =some x,fun i H=>∃xs,O3 K H a xs/\xs.length<=i⟩
def Itr (lo:Int)(n:Nat):It:=⟨fun i _=>i < n,fun i H x H'=>H'=H/\x= .int (lo+i),fun i _=>n<=i⟩
theorem cm5 {P:Program}{w:World}{K:PySem.W.Frag}{tg:Expr}(a it:Addr):bk8 P w K tg (Itl K a) [it] it (fun i h=>h.IsListIter it a i) where
 mem:=by simp
 obj:=fun i h st b hb=>by
   have e:b=it:=by simpa using hb
   subst e;obtain ⟨o,e,c,d⟩:=st;exact ⟨o,e,fun v z=>by rw[d] at z;cases z⟩
 keep:=fun i h h' st k=>st.at fun o e=>k it (by simp) o e
 item:=by
   intro X hP hw hK hc i pins s σ H E I hf st hg;subst hP hw hK;obtain ⟨xs,x,hq,hx⟩:=hg;obtain ⟨its,rv,p,hz⟩:=I.list hq;obtain ⟨u,hu,ru⟩:=rv.get hx;obtain ⟨f0,f1,f2,f3,f4,f5⟩:=hf it (by simp)
   refine wpAny_pyNext_list_item st p.isList (x:=u) (by simpa using hu) fun h' st' sb=> ?_
   have I1:i5 X pins σ H {s with heap:=h'}:=I.turned (t':=s.toks) (fun b o hb e=>(sb.2 b hb).trans e) f0 f1 f3 f4 f5;obtain ⟨o,e,c,d⟩:=id st';exact ⟨u,rfl,bt1 (s:={s with heap:=h'}) e c d (by decide) ⟨x,H,I1,ru,⟨rfl,fun ys hy=>by rw[I.list_inj hy hq];exact hx⟩,st',fun b hb=>(hf b hb).1⟩⟩
 done:=by
   intro X hP hw hK hc i pins s σ H E I hf st hg;subst hP hw hK;obtain ⟨xs,hq,hx⟩:=hg;obtain ⟨its,rv,p,hz⟩:=I.list hq;obtain ⟨f0,f1,f2,f3,f4,f5⟩:=hf it (by simp);have hl:=rv.length
   exact wpAny_pyNext_list_end (I.ok.hd hc) st p.isList (by simp;omega) fun h' eb=>⟨rfl,I.turned (t':=s.toks) (fun b o hb e=>eb b o hb e) f0 f1 f3 f4 f5⟩
 self:=fun _ _ _ _ _ st h=>wpAny_pyIter_listiter st h
theorem ci5 {P:Program}{w:World}{K:PySem.W.Frag}{tg:Expr}(a it:Addr):bk8 P w K tg (Itt K a) [it] it (fun i h=>h.IsTupleIter it a i) where
 mem:=by simp
 obj:=fun i h st b hb=>by
   have e:b=it:=by simpa using hb
   subst e;obtain ⟨o,e,c,d⟩:=st;exact ⟨o,e,fun v z=>by rw[d] at z;cases z⟩
 keep:=fun i h h' st k=>st.at fun o e=>k it (by simp) o e
 item:=by
   intro X hP hw hK hc i pins s σ H E I hf st hg;subst hP hw hK;obtain ⟨xs,x,hq,hx⟩:=hg;obtain ⟨its,rv,p,hz⟩:=I.tuple hq;obtain ⟨u,hu,ru⟩:=rv.get hx;obtain ⟨f0,f1,f2,f3,f4,f5⟩:=hf it (by simp)
   refine wpAny_pyNext_tuple_item st (show s.heap.IsTuple a its.toArray from p) (x:=u) (by simpa using hu) fun h' st' sb=> ?_
   have I1:i5 X pins σ H {s with heap:=h'}:=I.turned (t':=s.toks) (fun b o hb e=>(sb.2 b hb).trans e) f0 f1 f3 f4 f5;obtain ⟨o,e,c,d⟩:=id st';exact ⟨u,rfl,bt1 (s:={s with heap:=h'}) e c d (by decide) ⟨x,H,I1,ru,⟨rfl,fun ys hy=>by rw[I.tuple_inj hy hq];exact hx⟩,st',fun b hb=>(hf b hb).1⟩⟩
 done:=by
   intro X hP hw hK hc i pins s σ H E I hf st hg;subst hP hw hK;obtain ⟨xs,hq,hx⟩:=hg;obtain ⟨its,rv,p,hz⟩:=I.tuple hq;obtain ⟨f0,f1,f2,f3,f4,f5⟩:=hf it (by simp);have hl:=rv.length
   exact wpAny_pyNext_tuple_end (I.ok.hd hc) st (show s.heap.IsTuple a its.toArray from p) (by simp;omega) fun h' eb=>⟨rfl,I.turned (t':=s.toks) (fun b o hb e=>eb b o hb e) f0 f1 f3 f4 f5⟩
 self:=fun _ _ _ _ _ st h=>wpAny_pyIter_tupleiter st h
theorem ci6 {P:Program}{w:World}{K:PySem.W.Frag}{tg:Expr}(it:Addr)(lo:Int)(n:Nat):bk8 P w K tg (Itr lo n) [it] it (fun i h=>IsRangeIter h it (lo+(i:Nat)*1) ((n:Int) - (i:Nat)) 1) where
 mem:=by simp
 obj:=fun i h st b hb=>by
   have e:b=it:=by simpa using hb
   subst e
   exact ⟨_,st,fun v z=>by
     have z':Data.fields _=Data.cell v:=z
     cases z'⟩
 keep:=fun i h h' st k=>k it (by simp) _ st
 item:=by
   intro X hP hw hK hc i pins s σ H E I hf st hg;subst hP hw hK;obtain ⟨f0,f1,f2,f3,f4,f5⟩:=hf it (by simp);have W:=Walks.range (prog:=X.prog) (w:=X.w) (I.ok.hd hc) it lo 1 n
   refine W.item i s _ _ hg st fun v h' tk hv st' kk=> ?_
   obtain ⟨t,rfl⟩:=hv;have I1:i5 X pins σ H {s with heap:=h',toks:=tk}:=I.turned (fun b o hb e=>kk b o (by simpa using hb) e) f0 f1 f3 f4 f5;refine ⟨_,rfl,bt1 (s:={s with heap:=h',toks:=tk}) (n:="range_iterator") st' rfl rfl (by decide) ⟨.int (lo+i),H,I1,⟨t,?_⟩,⟨rfl,rfl⟩,st',fun b hb=>(hf b hb).1⟩⟩;rw[Int.mul_one]
 done:=by
   intro X hP hw hK hc i pins s σ H E I hf st hg;subst hP hw hK;obtain ⟨f0,f1,f2,f3,f4,f5⟩:=hf it (by simp)
   exact wpAny_pyNext_range_end (I.ok.hd hc) st (by have:n<=i:=hg;omega) fun h' eb=>⟨rfl,I.turned (t':=s.toks) (fun b o hb e=>eb b o hb e) f0 f1 f3 f4 f5⟩
 self:=fun _ _ _ _ _ st h=>wpAny_pyIter_rangeiter st h
end L2
namespace L2
local macro_rules|`(tactic|omega)=>`(tactic|lia)
open PySem PySem.Spec PyProof.Rows
section
variable {X:Cx} {tg:Expr}
def dp6 (K:PySem.W.Frag)(tl:TE):TI:=fun σ H R=>tl σ H fun x H1=>∃a,x= .ref a/\(∃xs,h8 K H1 a xs)/\R (Itl K a) H1
def dv6 (K:PySem.W.Frag)(tl:TE):TI:=fun σ H R=>tl σ H fun x H1=>∃a,x= .ref a/\(∃xs,O3 K H1 a xs)/\R (Itt K a) H1
theorem G8 {l:Expr}{tl:TE}(hl:PE X l tl):PI X tg l (dp6 X.K tl):=by
 intro pins s σ H R I h
 refine q0 (hl pins s σ H _ I h) fun v s1 ⟨x,H1,I1,r1,q1⟩=> ?_
 obtain ⟨a,e,⟨xs,hq⟩,q⟩:=q1;subst e;cases r1;obtain ⟨its,rv,p,hz⟩:=I1.list hq;refine wpAny_pyIter_list p.isList ?_;refine ⟨s1.heap.objs.size,[s1.heap.objs.size],_,_,H1,rfl,I1.kept (t':=s1.toks) fun b o e=>Heap.get?_push_of_some _ e,cm5 a _,⟨_,Heap.get?_push_size _ rfl,rfl,rfl⟩,fun b hb=> ?_,q⟩
 have e:b=s1.heap.objs.size:=by simpa using hb
 subst e;exact I1.fpOk (dz3 _) (I1.hok.fresh (dz3 _))
theorem cm6 {l:Expr}{tl:TE}(hl:PE X l tl):PI X tg l (dv6 X.K tl):=by
 intro pins s σ H R I h
 refine q0 (hl pins s σ H _ I h) fun v s1 ⟨x,H1,I1,r1,q1⟩=> ?_
 obtain ⟨a,e,⟨xs,hq⟩,q⟩:=q1;subst e;cases r1;obtain ⟨its,rv,p,hz⟩:=I1.tuple hq;refine wpAny_pyIter_tuple (show s1.heap.IsTuple a its.toArray from p) ?_;refine ⟨s1.heap.objs.size,[s1.heap.objs.size],_,_,H1,rfl,I1.kept (t':=s1.toks) fun b o e=>Heap.get?_push_of_some _ e,ci5 a _,⟨_,Heap.get?_push_size _ rfl,rfl,rfl⟩,fun b hb=> ?_,q⟩
 have e:b=s1.heap.objs.size:=by simpa using hb
 subst e;exact I1.fpOk (dz3 _) (I1.hok.fresh (dz3 _))
theorem bu5 {pins:List (Addr×Obj)}{σ:St}{H:Hp}{s:Shared}{R:It->Hp->Prop}{E:Value->Shared->Prop}{lo hi:Int}{t u v:Tok}{tk:Nat}(I:i5 X pins σ H s)(h1: -(2^62)<=lo)(h2:lo < 2^62)(h3: -(2^62)<=hi)(h4:hi < 2^62)
   (q:R (Itr lo (hi - lo).toNat) H):wpAny (model X.prog X.w) X.A (pyIter (.ref s.heap.objs.size)) (PIE X pins σ tg R) E {s with heap:=s.heap.push {cls:= .type "range",data:= .fields #[.int lo t,.int hi u,.int 1 v]},toks:=tk}:=by
 refine wpAny_pyIter_range (IsRange.new ..) (small_one h1 h2 h3 h4) ?_
 have I1:i5 X pins σ H {s with heap:=s.heap.push {cls:= .type "range",data:= .fields #[.int lo t,.int hi u,.int 1 v]},toks:=tk}:=I.kept fun b o e=>Heap.get?_push_of_some _ e
 refine ⟨(s.heap.push {cls:= .type "range",data:= .fields #[.int lo t,.int hi u,.int 1 v]}).objs.size,[(s.heap.push {cls:= .type "range",data:= .fields #[.int lo t,.int hi u,.int 1 v]}).objs.size],_,_,H,rfl,
   I1.kept (t':=tk) fun b o e=>Heap.get?_push_of_some _ e,ci6 _ lo (hi - lo).toNat,?_,fun b hb=> ?_,q⟩
 · have e1:lo+((0:Nat):Int)*1=lo:=by simp
   have e2:(((hi - lo).toNat:Nat):Int) - ((0:Nat):Int)=Builtin.Range.rangeSize lo hi 1:=by rw[rangeSize_one];split<;>omega
   show IsRangeIter _ _ (lo+((0:Nat):Int)*1) ((((hi - lo).toNat:Nat):Int) - ((0:Nat):Int)) 1;rw[e1,e2];exact Heap.get?_push_size _ rfl
 · have e:b=(s.heap.push {cls:= .type "range",data:= .fields #[.int lo t,.int hi u,.int 1 v]}).objs.size:=by simpa using hb
   subst e;exact I1.fpOk (dz3 _) (I1.hok.fresh (dz3 _))
def dp7 (ta:TA):TI:=fun σ H R=>ta σ H fun vs H1=>∃j:Int,vs=[.int j]/\ -(2^62)<=j/\j < 2^62/\R (Itr 0 j.toNat) H1
def dp8 (ta:TA):TI:=fun σ H R=>ta σ H fun vs H1=>∃i j:Int,vs=[.int i,.int j]/\(-(2^62)<=i/\i < 2^62/\ -(2^62)<=j/\j < 2^62)/\R (Itr i (j - i).toNat) H1
theorem K3 {a:Expr}{ta:TA}{p pos:Pos}(hg:Gl X "range")(hm:X.mg "range"=none)(ha:PA X [a] ta)(hs:starEach [a] X.env=[(false,eval a X.env)]:=by rfl):PI X tg (.Call (.Name "range" p) [a] [] pos) (dp7 ta):=by
 intro pins s σ H R I h;refine Call_ (an0 I hg hm boot_range (PyProof.Rows.callWith_type1 (q0 (ha pos pins s σ H _ I h) fun us s1 ⟨vs,H1,I1,r1,q1⟩=> ?_) hs rfl));obtain ⟨j,e,q1,q2,q⟩:=q1;subst e
 cases r1 with
 |cons r rr=>
  cases rr;obtain ⟨t,rfl⟩:=r;exact call_range_1 (bu5 I1 (by omega) (by omega) q1 q2 (by simpa using q))
theorem R8 {a b:Expr}{ta:TA}{p pos:Pos}(hg:Gl X "range")(hm:X.mg "range"=none)(ha:PA X [a,b] ta)(hs:starEach [a,b] X.env=[(false,eval a X.env),(false,eval b X.env)]:=by rfl)(hs2:starEach [b] X.env=[(false,eval b X.env)]:=by rfl):
   PI X tg (.Call (.Name "range" p) [a,b] [] pos) (dp8 ta):=by
 intro pins s σ H R I h;refine Call_ (an0 I hg hm boot_range (PyProof.Rows.callWith_type1 (q0 (ha pos pins s σ H _ I h) fun us s1 ⟨vs,H1,I1,r1,q1⟩=> ?_) (by rw[hs,hs2]) (by rw[hs2];rfl)));obtain ⟨i,j,e,⟨q1,q2,q3,q4⟩,q⟩:=q1;subst e
 cases r1 with
 |cons r rr=>
  cases rr with
  |cons r' rr=>
   cases rr;obtain ⟨t,rfl⟩:=r;obtain ⟨t',rfl⟩:=r';exact call_range_2 (bu5 I1 q1 q2 q3 q4 q)
def dv7 (wi:TI)(g:TG)(tb:TS):TS:=fun D σ H=>wi σ H fun J H1=>∃W:Nat->Nat->St->Hp->Prop,(∃m,W 0 m σ H1)/\∀i m σ H,W i m σ H->
 (J.stop i H/\D.nx σ H)\/(J.go i H/\∃N:St->Hp->Prop,(∀σ' H',N σ' H'->∃m',m' < m/\W (i+1) m' σ' H')/\∀x H',J.yld i H x H'->g x σ H' fun σ2 H2=>tb {D with nx:=N,ct:=N,bk:=D.nx} σ2 H2)
def ag9 (fp:List Addr)(h:Heap):List (Addr×Obj):=fp.filterMap fun b=>(h.get? b).map fun o=>(b,o)
theorem af8 {fp:List Addr}{h:Heap}{b:Addr}{o:Obj}(hb:b∈fp)(e:h.get? b=some o):(b,o)∈ag9 fp h:=er1.mpr ⟨b,hb,by rw[e];rfl⟩
theorem bo1 {fp:List Addr}{h:Heap}{p:Addr×Obj}(hp:p∈ag9 fp h):p.1∈fp/\h.get? p.1=some p.2:=by
 obtain ⟨b,hb,e⟩:=er1.mp hp
 cases q:h.get? b with
 |none=>rw[q] at e;cases e
 |some o=>
  rw[q] at e;have e':(b,o)=p:=Option.some.inj e;subst e';exact ⟨hb,q⟩
theorem i5.pinned {pins:List (Addr×Obj)}{σ:St}{H:Hp}{s:Shared}{fp:List Addr}(I:i5 X pins σ H s)(hf:∀b∈fp,av9 X pins H b)(ho:∀b∈fp,∃o,s.heap.get? b=some o/\∀v,o.data≠.cell v):i5 X (pins++ag9 fp s.heap) σ H s:=
 I.pins_of fun p hp=>(ea3.mp hp).elim (fun z=>I.pin p (ea9 _ z)) fun z=>by
   obtain ⟨hb,e⟩:=bo1 z;obtain ⟨f0,f1,f2,_⟩:=hf p.1 hb;obtain ⟨o,e',d⟩:=ho p.1 hb;rw[e] at e';cases e';exact ⟨e,f0,f1,f2,d⟩
theorem i5.unpinned {pins pl:List (Addr×Obj)}{σ:St}{H:Hp}{s:Shared}(I:i5 X (pins++pl) σ H s):i5 X pins σ H s:=I.pins_of fun p hp=>I.pin p (ea9 _ (ed9 _ hp))
theorem o6 {iter:Expr}{body:List Stmt}{wi:TI}{g:TG}{tb:TS}{pos:Pos}(hp:PassesOwn (model X.prog X.w) X.A X.env X.xe)(hc:X.calm=true)(hi:PI X tg iter wi)(hg:PG X tg g)(hb:Z7 X body tb)
   (hs:∀x,foldedSetIterable iter X.env x=pure x:=by intro _;rfl):PS X (.For tg iter body [] pos) (dv7 wi g tb):=by
 intro pins s σ H D I h;refine wpAny_For (q0 (hi pins s σ H _ I h) fun v s1 h1=>q0 h1 fun itv s2 h2=> ?_) hs;obtain ⟨it,fp,tn,J,H2,e,I2,T,st2,f2,W,⟨m0,w0⟩,turn⟩:=h2;subst e
 have stat:∀{H':Hp},(∀b∈fp,H' b=none)->∀b∈fp,av9 X pins H' b:=fun hn b hb=>⟨hn b hb,(f2 b hb).2⟩
 refine codeAny_forLoop_any (fun n s'=>∃i σ' H',i5 X pins σ' H' s'/\tn i s'.heap/\(∀b∈fp,H' b=none)/\W i n σ' H') ?_ m0 ⟨0,σ,H2,I2,st2,fun b hb=>(f2 b hb).1,w0⟩;rintro n s3 ⟨i,σ3,H3,I3,st3,fr3,w3⟩
 rcases turn i n σ3 H3 w3 with ⟨stop,qn⟩|⟨go,N,hN,step⟩
 · refine wpAny_passesOwn hp (q0 (T.done X rfl rfl rfl hc i pins s3 σ3 H3 X.xe I3 (stat fr3) st3 stop) fun r s4 ⟨hr,I4⟩=> ?_);subst hr;exact wpAny_execs_nil ⟨σ3,H3,I4,qn⟩
 · refine wpAny_passesOwn hp (q0 (T.item X rfl rfl rfl hc i pins s3 σ3 H3 X.xe I3 (stat fr3) st3 go) fun r s4 ⟨u,hr,h4⟩=> ?_);subst hr;refine wpAny_passesOwn hp (q0 h4 fun _ s5 ⟨x,H5,I5,r5,y5,st5,fr5⟩=> ?_);have I5':=I5.pinned (stat fr5) (T.obj _ _ st5);refine wpAny_passesOwn hp (q0 (hg _ s5 σ3 H5 x u _ I5' r5 (step x H5 y5)) fun _ s6 ⟨σ6,H6,I6,q6⟩=> ?_);refine wpAny_passesOwn hp (q0 (hb _ s6 σ6 H6 _ I6 q6) fun f s7 q7=> ?_)
   have again:∀{σ7:St} {H7:Hp},i5 X (pins++ag9 fp s5.heap) σ7 H7 s7->N σ7 H7->∃m,m < n/\∃i σ' H',i5 X pins σ' H' s7/\tn i s7.heap/\(∀b∈fp,H' b=none)/\W i m σ' H':=fun {σ7 H7} I7 n7=>by
     obtain ⟨m',hm,w7⟩:=hN σ7 H7 n7;refine ⟨m',hm,i+1,σ7,H7,I7.unpinned,T.keep _ _ _ st5 fun b hb o e=>(I7.pin (b,o) (ea9 _ (ea9 _ (af8 hb e)))).1,fun b hb=> ?_,w7⟩;obtain ⟨o,e,d⟩:=T.obj _ _ st5 b hb;exact (I7.pin (b,o) (ea9 _ (ea9 _ (af8 hb e)))).2.1
   cases f with
   |next=>obtain ⟨σ7,H7,I7,n7⟩:=q7;exact again I7 n7
   |cont=>obtain ⟨σ7,H7,I7,n7⟩:=q7;exact again I7 n7
   |brk=>obtain ⟨σ7,H7,I7,q7⟩:=q7;exact ⟨σ7,H7,I7.unpinned,q7⟩
   |ret v=>obtain ⟨x7,σ7,H7,I7,r7,q7⟩:=q7;exact ⟨x7,σ7,H7,I7.unpinned,r7,q7⟩
end
theorem K1 {K:PySem.W.Frag}{a:Addr}{xs:List V}{g:TG}{tb:TS}{D:U3}{σ:St}{H:Hp}(Pv:Nat->St->Hp->Prop)(h0:Pv 0 σ H)(hl:∀i σ H,i<=xs.length->Pv i σ H->h8 K H a xs)
   (hs:∀i x σ H,xs[i]? =some x->Pv i σ H->g x σ H fun σ2 H2=>tb {D with nx:=Pv (i+1),ct:=Pv (i+1),bk:=D.nx} σ2 H2) (hd:∀σ H,Pv xs.length σ H->D.nx σ H):
   ∃W:Nat->Nat->St->Hp->Prop,(∃m,W 0 m σ H)/\∀i m σ H,W i m σ H->
    ((Itl K a).stop i H/\D.nx σ H)\/((Itl K a).go i H/\∃N:St->Hp->Prop,(∀σ' H',N σ' H'->∃m',m' < m/\W (i+1) m' σ' H')/\∀x H',(Itl K a).yld i H x H'->g x σ H' fun σ2 H2=>tb {D with nx:=N,ct:=N,bk:=D.nx} σ2 H2):=by
 refine ⟨fun i m σ H=>m=xs.length - i/\i<=xs.length/\Pv i σ H,⟨xs.length,by simp,eb4 _,h0⟩,?_⟩;rintro i m σ H ⟨rfl,hi,p⟩;have q:=hl i σ H hi p
 by_cases hlt:i < xs.length
 · refine .inr ⟨⟨xs,xs[i],q,by simp [hlt]⟩,Pv (i+1),fun σ' H' p'=>⟨xs.length - (i+1),by omega,rfl,hlt,p'⟩,fun x H' y=> ?_⟩;obtain ⟨e,y⟩:=y;subst e;exact hs i x σ _ (y xs q) p
 · have e:i=xs.length:=by omega
   subst e;exact .inl ⟨⟨xs,q,dz3 _⟩,hd σ H p⟩
theorem E3 {lo:Int}{n:Nat}{g:TG}{tb:TS}{D:U3}{σ:St}{H:Hp}(Pv:Nat->St->Hp->Prop)(h0:Pv 0 σ H)
   (hs:∀i σ H,i < n->Pv i σ H->g (.int (lo+i)) σ H fun σ2 H2=>tb {D with nx:=Pv (i+1),ct:=Pv (i+1),bk:=D.nx} σ2 H2) (hd:∀σ H,Pv n σ H->D.nx σ H):
   ∃W:Nat->Nat->St->Hp->Prop,(∃m,W 0 m σ H)/\∀i m σ H,W i m σ H->
    ((Itr lo n).stop i H/\D.nx σ H)\/((Itr lo n).go i H/\∃N:St->Hp->Prop,(∀σ' H',N σ' H'->∃m',m' < m/\W (i+1) m' σ' H')/\∀x H',(Itr lo n).yld i H x H'->g x σ H' fun σ2 H2=>tb {D with nx:=N,ct:=N,bk:=D.nx} σ2 H2):=by
 refine ⟨fun i m σ H=>m=n - i/\i<=n/\Pv i σ H,⟨n,by simp,eb4 _,h0⟩,?_⟩;rintro i m σ H ⟨rfl,hi,p⟩
 by_cases hlt:i < n
 · refine .inr ⟨hlt,Pv (i+1),fun σ' H' p'=>⟨n - (i+1),by omega,rfl,hlt,p'⟩,fun x H' y=> ?_⟩;obtain ⟨e,y⟩:=y;subst e y;exact hs i σ _ hlt p
 · have e:i=n:=by omega
   subst e;exact .inl ⟨dz3 _,hd σ H p⟩
theorem bd3 {c:TT}{tb:TS}{D:U3}{σ:St}{H:Hp}(Pv:St->Hp->Prop)(μ:St->Hp->Nat)(h0:Pv σ H)
   (hs:∀σ H,Pv σ H->c σ H fun b H1=>if b=true then tb {D with nx:=fun σ' H'=>Pv σ' H'/\μ σ' H' < μ σ H,ct:=fun σ' H'=>Pv σ' H'/\μ σ' H' < μ σ H,bk:=D.nx} σ H1 else D.nx σ H1)
   (mono:∀σ H Q Q',(∀b H1,Q b H1->Q' b H1)->c σ H Q->c σ H Q'):cm4 c tb D σ H:=by
 refine ⟨fun m σ H=>m=μ σ H/\Pv σ H,⟨_,rfl,h0⟩,?_⟩;rintro m σ H ⟨rfl,p⟩;refine mono σ H _ _ (fun b H1 q=> ?_) (hs σ H p)
 cases b with
 |true=>exact ⟨_,fun σ' H' ⟨p',l⟩=>⟨_,l,rfl,p'⟩,q⟩
 |false=>exact q
end L2
namespace L2
local macro_rules|`(tactic|omega)=>`(tactic|lia)
open PySem PySem.Spec PyProof.Rows
abbrev R2:=V->V->Hp->VK->Prop
def P1 (X:Cx)(f:Value->Value->Sem Value)(r:R2):Prop:=
 ∀(pins:List (Addr×Obj)) (s:Shared) (σ:St) (H:Hp) (x y:V) (v u:Value) (Q:VK),i5 X pins σ H s->o5 x v->o5 y u->r x y H Q->
  wpAny (model X.prog X.w) X.A (f v u) (EP X pins σ Q) X.xe s
def UnR (X:Cx)(f:Value->Sem Value)(r:V->Hp->VK->Prop):Prop:=
 ∀(pins:List (Addr×Obj)) (s:Shared) (σ:St) (H:Hp) (x:V) (v:Value) (Q:VK),i5 X pins σ H s->o5 x v->r x H Q->
  wpAny (model X.prog X.w) X.A (f v) (EP X pins σ Q) X.xe s
def X7 (X:Cx)(f:Value)(r:List V->Hp->VK->Prop):Prop:=
 ∀(pins:List (Addr×Obj)) (s:Shared) (σ:St) (H:Hp) (xs:List V) (us:List Value) (Q:VK),i5 X pins σ H s->m7 xs us->r xs H Q->
  wpAny (model X.prog X.w) X.A (call f us) (EP X pins σ Q) X.xe s
def tOp (r:R2)(ta tb:TE):TE:=fun σ H Q=>ta σ H fun x H1=>tb σ H1 fun y H2=>r x y H2 Q
def tUn (r:V->Hp->VK->Prop)(ta:TE):TE:=fun σ H Q=>ta σ H fun x H1=>r x H1 Q
def rI (C:Int->Int->Prop)(g:Int->Int->V):R2:=fun x y H Q=>∃i j,x= .int i/\y= .int j/\C i j/\Q (g i j) H
def rI0 (g:Int->Int->V):R2:=fun x y H Q=>∃i j,x= .int i/\y= .int j/\Q (g i j) H
def rU (g:Int->V):V->Hp->VK->Prop:=fun x H Q=>∃i,x= .int i/\Q (g i) H
section
variable {X:Cx} {a b c:Expr} {ta tb tc:TE} {pos:Pos}
theorem cu7 (ha:PE X a ta)(hb:PE X b tb){pins:List (Addr×Obj)}{s:Shared}{σ:St}{H:Hp}{R:V->V->Hp->Prop}(I:i5 X pins σ H s)
   (h:ta σ H fun x H1=>tb σ H1 fun y H2=>R x y H2) {Q:Value->Shared->Prop} {f:Value->Value->Sem Value}
   (hf:∀v u s2 x y H2,i5 X pins σ H2 s2->o5 x v->o5 y u->R x y H2->wpAny (model X.prog X.w) X.A (f v u) Q X.xe s2):
   wpAny (model X.prog X.w) X.A (eval a X.env) (fun v s₁=>wpAny (model X.prog X.w) X.A (eval b X.env) (fun u s₂=>wpAny (model X.prog X.w) X.A (f v u) Q X.xe s₂) X.xe s₁) X.xe s:=by
 refine q0 (ha pins s σ H _ I h) fun v s1 ⟨x,H1,I1,r1,q1⟩=> ?_
 refine q0 (hb pins s1 σ H1 _ I1 q1) fun u s2 ⟨y,H2,I2,r2,q2⟩=> ?_
 exact hf v u s2 x y H2 I2 r1 r2 q2
theorem i7 {op:Operator}{r:R2}(ho:P1 X (binaryOp op) r)(ha:PE X a ta)(hb:PE X b tb):PE X (.BinOp a op b pos) (tOp r ta tb):=by
 intro pins s σ H Q I h;exact wpAny_BinOp (cu7 ha hb I h fun v u s2 x y H2 I2 rx ry q=>ho pins s2 σ H2 x y v u Q I2 rx ry q)
theorem bt2 {op:UnaryOp}{r:V->Hp->VK->Prop}(ho:UnR X (unaryOp op) r)(ha:PE X a ta):PE X (.UnaryOp op a pos) (tUn r ta):=by
 intro pins s σ H Q I h;exact UnaryOp_ (q0 (ha pins s σ H _ I h) fun v s1 ⟨x,H1,I1,r1,q1⟩=>ho pins s1 σ H1 x v Q I1 r1 q1)
theorem opI {f:Value->Value->Sem Value}{C:Int->Int->Prop}{g:Int->Int->Int}
   (rule:∀(i j:Int) (t u:Tok) (s:Shared) (Q:Value->Shared->Prop) (E:Value->Shared->Prop),C i j->Q (.int (g i j) s.toks) {s with toks:=s.toks+1}->wpAny (model X.prog X.w) X.A (f (.int i t) (.int j u)) Q E s):
   P1 X f (rI C fun i j=> .int (g i j)):=by
 intro pins s σ H x y v u Q I rx ry h;obtain ⟨i,j,rfl,rfl,hc,q⟩:=h;obtain ⟨t,rfl⟩:=rx;obtain ⟨t',rfl⟩:=ry;exact rule i j t t' s _ _ hc ⟨.int (g i j),H,I.tok _,⟨_,rfl⟩,q⟩
theorem dj1 {f:Value->Value->Sem Value}{g:Int->Int->Int}
   (rule:∀(i j:Int) (t u:Tok) (s:Shared) (Q:Value->Shared->Prop) (E:Value->Shared->Prop),Q (.int (g i j) s.toks) {s with toks:=s.toks+1}->wpAny (model X.prog X.w) X.A (f (.int i t) (.int j u)) Q E s):
   P1 X f (rI0 fun i j=> .int (g i j)):=by
 intro pins s σ H x y v u Q I rx ry h;obtain ⟨i,j,rfl,rfl,q⟩:=h;obtain ⟨t,rfl⟩:=rx;obtain ⟨t',rfl⟩:=ry;exact rule i j t t' s _ _ ⟨.int (g i j),H,I.tok _,⟨_,rfl⟩,q⟩
theorem ci7 {f:Value->Value->Sem Value}{g:Int->Int->Bool}
   (rule:∀(i j:Int) (t u:Tok) (s:Shared) (Q:Value->Shared->Prop) (E:Value->Shared->Prop),Q (.bool (g i j)) s->wpAny (model X.prog X.w) X.A (f (.int i t) (.int j u)) Q E s):
   P1 X f (rI0 fun i j=> .bl (g i j)):=by
 intro pins s σ H x y v u Q I rx ry h;obtain ⟨i,j,rfl,rfl,q⟩:=h;obtain ⟨t,rfl⟩:=rx;obtain ⟨t',rfl⟩:=ry;exact rule i j t t' s _ _ ⟨.bl (g i j),H,I,rfl,q⟩
def dv8 (i j:Int):Prop:=0 < j/\j < 1073741824
def dj2 (i j:Int):Prop:=0<=j/\j<=1000000/\i.natAbs < 2^64
def cu8 (i j:Int):Prop:=(-(2^64) < i/\i < 2^64)\/(-(2^64) < j/\j < 2^64)
theorem cu8.ok {i j:Int}(h:cu8 i j):IntMulOk i j:=by
 rcases h with ⟨h1,h2⟩|⟨h1,h2⟩
 · exact .of_left (intBits_le_64 h1 h2)
 · exact .of_right (intBits_le_64 h1 h2)
theorem E7:P1 X (binaryOp .Add) (rI0 fun i j=> .int (i+j)):=dj1 fun _ _ _ _ _ _ _ q=>add_int q
theorem V0:P1 X (binaryOp .Sub) (rI0 fun i j=> .int (i - j)):=dj1 fun _ _ _ _ _ _ _ q=>sub_int q
theorem O4:P1 X (binaryOp .Mult) (rI cu8 fun i j=> .int (i*j)):=opI fun _ _ _ _ _ _ _ hc q=>mul_int q hc.ok
theorem cd9:P1 X (binaryOp .FloorDiv) (rI dv8 fun i j=> .int (i/j)):=opI fun i j _ _ _ _ _ hc q=>by
 have h1:(0:Int) < j:=hc.1;have h2:j < 1073741824:=hc.2;exact floordiv_int (by omega) (by rw[er5 i (by omega)];exact q) (.inl (PyProof.noPylong_small (by omega)))
theorem C6:P1 X (binaryOp .Mod) (rI (fun _ j=>0 < j) fun i j=> .int (i%j)):=opI fun i j _ _ _ _ _ hc q=>by
 have h1:(0:Int) < j:=hc;exact mod_int' (by omega) (by rw[Int.fmod_eq_emod_of_nonneg i (by omega)];exact q)
theorem bu6:P1 X (binaryOp .Pow) (rI dj2 fun i j=> .int (i^j.toNat)):=opI fun _ _ _ _ _ _ _ hc q=>pow_int_small hc.1 hc.2.1 hc.2.2 q
theorem unI {f:Value->Sem Value}{g:Int->Int}
   (rule:∀(i:Int) (t:Tok) (s:Shared) (Q:Value->Shared->Prop) (E:Value->Shared->Prop),Q (.int (g i) s.toks) {s with toks:=s.toks+1}->wpAny (model X.prog X.w) X.A (f (.int i t)) Q E s):
   UnR X f (rU fun i=> .int (g i)):=by
 intro pins s σ H x v Q I rx h;obtain ⟨i,rfl,q⟩:=h;obtain ⟨t,rfl⟩:=rx;exact rule i t s _ _ ⟨.int (g i),H,I.tok _,⟨_,rfl⟩,q⟩
theorem bg4:UnR X (unaryOp .USub) (rU fun i=> .int (-i)):=unI fun _ _ _ _ _ q=>neg_int q
end
def dj3:V->V->Bool
 | .non,.non=>true| .non,.int _=>true| .int _,.non=>true| .non,.bl _=>true| .bl _,.non=>true| .non,.str _=>true| .str _,.non=>true
 | .int _,.int _=>true| .bl _,.bl _=>true| .str _,.str _=>true| .byt _,.byt _=>true
 | .int _,.str _=>true| .str _,.int _=>true| .bl _,.str _=>true| .str _,.bl _=>true
 |_,_=>false
def rEq:R2:=fun x y H Q=>dj3 x y=true/\Q (.bl (decide (x=y))) H
def rNe:R2:=fun x y H Q=>dj3 x y=true/\Q (.bl (!decide (x=y))) H
theorem ce0 {i j:Int}:decide (V.int i=V.int j)=(i==j):=by
 rw[el8];simp
theorem cm7 {i j:Bool}:decide (V.bl i=V.bl j)=(i==j):=by
 rw[el8];simp
theorem ce1 {i j:Str}:decide (V.str i=V.str j)=(i==j):=by
 rw[el8];simp
theorem ce2 {i j:Array UInt8}:decide (V.byt i=V.byt j)=(i.toList==j.toList):=by
 rw[el8];cases i;cases j;simp
section
variable {X:Cx} {a b c:Expr} {ta tb tc:TE} {pos:Pos}
theorem C2 {pins:List (Addr×Obj)}{σ:St}{H:Hp}{s:Shared}{Q:VK}{k k':Bool}(I:i5 X pins σ H s)(q:Q (.bl k) H)(e:k=k'):EP X pins σ Q (.bool k') s:=by
 subst e;exact ⟨.bl k,H,I,rfl,q⟩
theorem ad0:P1 X (compareOp .Eq) rEq:=by
 intro pins s σ H x y v u Q I rx ry h;obtain ⟨hs,q⟩:=h
 cases x with
 |non=>
  cases rx
  cases y with
  |non=>cases ry;exact PySem.EqNone.eq_none_none (C2 I q (by simp))
  |bl j=>cases ry;exact PySem.EqNone.eq_none_bool (C2 I q (by simp))
  |int j=>obtain ⟨t',rfl⟩:=ry;exact PySem.EqNone.eq_none_int (C2 I q (by simp))
  |str j=>obtain ⟨t',rfl⟩:=ry;exact PySem.EqNone.eq_none_str (C2 I q (by simp))
  |_=>exact absurd (show false=true from hs) eb1
 |bl i=>
  cases rx
  cases y with
  |non=>cases ry;exact PySem.EqNone.eq_bool_none (C2 I q (by simp))
  |bl j=>cases ry;exact eq_bool (C2 I q cm7)
  |str j=>obtain ⟨t',rfl⟩:=ry;exact PySem.EqMixed.eq_bool_str (C2 I q (by simp))
  |_=>exact absurd (show false=true from hs) eb1
 |int i=>
  obtain ⟨t,rfl⟩:=rx
  cases y with
  |non=>cases ry;exact PySem.EqNone.eq_int_none (C2 I q (by simp))
  |int j=>obtain ⟨t',rfl⟩:=ry;exact eq_int (C2 I q ce0)
  |str j=>obtain ⟨t',rfl⟩:=ry;exact PySem.EqMixed.eq_int_str (C2 I q (by simp))
  |_=>exact absurd (show false=true from hs) eb1
 |str i=>
  obtain ⟨t,rfl⟩:=rx
  cases y with
  |non=>cases ry;exact PySem.EqNone.eq_str_none (C2 I q (by simp))
  |bl j=>cases ry;exact PySem.EqMixed.eq_str_bool (C2 I q (by simp))
  |int j=>obtain ⟨t',rfl⟩:=ry;exact PySem.EqMixed.eq_str_int (C2 I q (by simp))
  |str j=>obtain ⟨t',rfl⟩:=ry;exact eq_str (C2 I q ce1)
  |_=>exact absurd (show false=true from hs) eb1
 |byt i=>
  obtain ⟨t,rfl⟩:=rx
  cases y with
  |byt j=>obtain ⟨t',rfl⟩:=ry;exact PySem.W.eq_bytes (C2 I q ce2)
  |_=>exact absurd (show false=true from hs) eb1
 |_=>cases y<;>exact absurd (show false=true from hs) eb1
theorem ap9:P1 X (compareOp .NotEq) rNe:=by
 intro pins s σ H x y v u Q I rx ry h;obtain ⟨hs,q⟩:=h
 cases x with
 |non=>
  cases rx
  cases y with
  |non=>cases ry;exact PySem.EqNone.ne_none_none (C2 I q (by simp))
  |bl j=>cases ry;exact PySem.EqNone.ne_none_bool (C2 I q (by simp))
  |int j=>obtain ⟨t',rfl⟩:=ry;exact PySem.EqNone.ne_none_int (C2 I q (by simp))
  |str j=>obtain ⟨t',rfl⟩:=ry;exact PySem.EqNone.ne_none_str (C2 I q (by simp))
  |_=>exact absurd (show false=true from hs) eb1
 |bl i=>
  cases rx
  cases y with
  |non=>cases ry;exact PySem.EqNone.ne_bool_none (C2 I q (by simp))
  |bl j=>cases ry;exact ne_bool (C2 I q (congrArg not cm7))
  |str j=>obtain ⟨t',rfl⟩:=ry;exact PySem.EqMixed.ne_bool_str (C2 I q (by simp))
  |_=>exact absurd (show false=true from hs) eb1
 |int i=>
  obtain ⟨t,rfl⟩:=rx
  cases y with
  |non=>cases ry;exact PySem.EqNone.ne_int_none (C2 I q (by simp))
  |int j=>obtain ⟨t',rfl⟩:=ry;exact ne_int (C2 I q (congrArg not ce0))
  |str j=>obtain ⟨t',rfl⟩:=ry;exact PySem.EqMixed.ne_int_str (C2 I q (by simp))
  |_=>exact absurd (show false=true from hs) eb1
 |str i=>
  obtain ⟨t,rfl⟩:=rx
  cases y with
  |non=>cases ry;exact PySem.EqNone.ne_str_none (C2 I q (by simp))
  |bl j=>cases ry;exact PySem.EqMixed.ne_str_bool (C2 I q (by simp))
  |int j=>obtain ⟨t',rfl⟩:=ry;exact PySem.EqMixed.ne_str_int (C2 I q (by simp))
  |str j=>obtain ⟨t',rfl⟩:=ry;exact ne_str (C2 I q (congrArg not ce1))
  |_=>exact absurd (show false=true from hs) eb1
 |byt i=>
  obtain ⟨t,rfl⟩:=rx
  cases y with
  |byt j=>obtain ⟨t',rfl⟩:=ry;exact PySem.W.ne_bytes (C2 I q (congrArg not ce2))
  |_=>exact absurd (show false=true from hs) eb1
 |_=>cases y<;>exact absurd (show false=true from hs) eb1
theorem aj9:P1 X (compareOp .Lt) (rI0 fun i j=> .bl (decide (i < j))):=ci7 fun _ _ _ _ _ _ _ q=>lt_int q
theorem ci8:P1 X (compareOp .LtE) (rI0 fun i j=> .bl (decide (i<=j))):=ci7 fun _ _ _ _ _ _ _ q=>le_int q
theorem aq0:P1 X (compareOp .Gt) (rI0 fun i j=> .bl (decide (j < i))):=ci7 fun _ _ _ _ _ _ _ q=>gt_int q
theorem bg5:P1 X (compareOp .GtE) (rI0 fun i j=> .bl (decide (j<=i))):=ci7 fun _ _ _ _ _ _ _ q=>ge_int q
theorem cm8:P1 X (compareOp .Is) (fun x y H Q=>y= .non/\Q (.bl (decide (x= .non))) H):=by
 intro pins s σ H x y v u Q I rx ry h;obtain ⟨rfl,q⟩:=h;cases ry;refine is_none_gen (C2 I q ?_)
 cases x<;>first
   |(cases rx;rfl)
   |(obtain ⟨t,rfl⟩:=rx;rfl)
theorem n5 (b:Expr){op:CmpOp}(h:op≠.In:=by decide)(h2:op≠.NotIn:=by decide):behindInMarks op b=false:=by
 have e1:(op==CmpOp.In)=false:=by cases op<;>first|rfl|exact absurd rfl h
 have e2:(op==CmpOp.NotIn)=false:=by cases op<;>first|rfl|exact absurd rfl h2
 cases b<;>simp [behindInMarks,e1,e2]
theorem az9 {op:CmpOp}{r:R2}(ho:P1 X (compareOp op) r)(ha:PE X a ta)(hb:PE X b tb)(hm:behindInMarks op b=false):PE X (.Compare a [op] [b] pos) (tOp r ta tb):=by
 intro pins s σ H Q I h;exact wpAny_Compare1 (cu7 ha hb I h fun v u s2 x y H2 I2 rx ry q=>ho pins s2 σ H2 x y v u Q I2 rx ry q) hm
def dp9 (t:TE):TT:=fun σ H Q=>t σ H fun x H'=>∃k,x= .bl k/\Q k H'
theorem j8 {op:CmpOp}{r:R2}(ho:P1 X (compareOp op) r)(ha:PE X a ta)(hb:PE X b tb)(hm:behindInMarks op b=false):PT X (.Compare a [op] [b] pos) (dp9 (tOp r ta tb)):=by
 intro pins s σ H Q I h
 refine wpAny_isTrue_Compare1 (q0 (ha pins s σ H _ I h) fun v s1 ⟨x,H1,I1,r1,q1⟩=>q0 (hb pins s1 σ H1 _ I1 q1) fun u s2 ⟨y,H2,I2,r2,q2⟩=>
   q0 (ho pins s2 σ H2 x y v u _ I2 r1 r2 q2) fun c s3 ⟨z,H3,I3,r3,k,e,q3⟩=> ?_) hm
 subst e;cases r3;exact wpAny_truthy_bool ⟨H3,I3,q3⟩
theorem bu7:(sizeLine:Nat) < 2^63:=by rw[sizeLine_eq];decide
theorem aq1 {x:V}{us:List Value}(r:m7 [x] us):∃u,us=[u]/\o5 x u:=by
 cases r with
 |cons r1 r2=>cases r2;exact ⟨_,rfl,r1⟩
theorem bt3 {x y:V}{us:List Value}(r:m7 [x,y] us):∃u w',us=[u,w']/\o5 x u/\o5 y w':=by
 cases r with
 |cons r1 r2=>
  cases r2 with
  |cons r3 r4=>cases r4;exact ⟨_,_,rfl,r1,r3⟩
theorem cm9 (hc:X.calm=true):X7 X (.builtin "max") (fun xs H Q=>∃i j,xs=[.int i,.int j]/\Q (.int (if j > i then j else i)) H):=by
 intro pins s σ H xs us Q I r h;obtain ⟨i,j,rfl,q⟩:=h;obtain ⟨u,w',rfl,⟨t,rfl⟩,⟨t',rfl⟩⟩:=bt3 r
 refine max_two_ints (I.ok.hd hc) fun h' tk k=>⟨_,H,I.kept k,?_,q⟩
 by_cases hj:j > i
 · rw[if_pos hj,if_pos hj];exact ⟨_,rfl⟩
 · rw[if_neg hj,if_neg hj];exact ⟨_,rfl⟩
theorem cn0 (hc:X.calm=true):X7 X (.builtin "min") (fun xs H Q=>∃i j,xs=[.int i,.int j]/\Q (.int (if j < i then j else i)) H):=by
 intro pins s σ H xs us Q I r h;obtain ⟨i,j,rfl,q⟩:=h;obtain ⟨u,w',rfl,⟨t,rfl⟩,⟨t',rfl⟩⟩:=bt3 r
 refine min_two_ints (I.ok.hd hc) fun h' tk k=>⟨_,H,I.kept k,?_,q⟩
 by_cases hj:j < i
 · rw[if_pos hj,if_pos hj];exact ⟨_,rfl⟩
 · rw[if_neg hj,if_neg hj];exact ⟨_,rfl⟩
end
end L2
namespace L2
local macro_rules|`(tactic|omega)=>`(tactic|lia)
open PySem PySem.Spec PyProof.Rows
structure cu9 (h:Heap)(x dx C:Addr)(mA:Str->Option Value):Prop where
 obj:h.get? x=some (PySem.W.instObj C dx)
 ns:h.Ns1 dx mA
 ne:dx≠x
theorem cn1 {h:Heap}{dx:Addr}{mA:Str->Option Value}(n:h.Ns1 dx mA):∃od,h.get? dx=some od/\∀name,PySem.W.lookIn name od=some (mA name):=by
 obtain ⟨o,es,ep,ho,hd,hk,_,hm⟩:=n;refine ⟨o,ho,fun name=> ?_⟩;have e:=hm name;unfold nsFind findBy at e;rw[<-Array.find?_toList] at e;unfold PySem.W.lookIn;rw[hd]
 dsimp only
 split
 · rename_i y q;rw[q] at e;exact congrArg some e
 · rename_i q;rw[q] at e
   have a:es.toList.any (·.refKey)=false:=by
     rw[List.any_eq_false];intro y hy;obtain ⟨z,t,hkey⟩:=hk y (Array.mem_toList_iff.mp hy);simp [DictEntry.refKey,hkey]
   have a':¬es.toList.any (·.refKey)=true:=by rw[a];exact eb1
   rw[if_neg a'];exact congrArg some e
theorem cu9.look {h:Heap}{x dx C:Addr}{mA:Str->Option Value}(I:cu9 h x dx C mA):∃od,PySem.W.InstAt h x (PySem.W.instObj C dx) C (some od)/\∀name,PySem.W.lookIn name od=some (mA name):=
 let ⟨od,ho,hl⟩:=cn1 I.ns
 ⟨od,⟨I.obj,rfl,rfl,ho⟩,hl⟩
theorem aa9.some_of {v:V}{o:Option Value}(r:aa9 (some v) o):∃u,o=some u/\o5 v u:=by
 cases o with
 |none=>exact (show False from r).elim
 |some u=>exact ⟨u,rfl,r⟩
section
variable {P:Program} {w:World} {H H':Hp} {h h':Heap} {a C dx:Addr} {fs fs':List (Str×V)}
theorem dc1 (hok:K5 P w H h)(e:H a=some (.ins C dx fs)):∃mA,cu9 h a dx C mA/\(∀f,aa9 (fs.lookup f) (mA f))/\PySem.Within mA (fs.map (·.1))/\fs.length<=1000/\H dx=some (.own a):=by
 obtain ⟨d,z,ne,ob,mA,n,r,q⟩:=(show B9 P w H h a (.ins C dx fs) from hok a _ e);exact ⟨mA,⟨ob,n,ne⟩,r,q,z,d⟩
end
structure Cls (K:PySem.W.Frag)(C:Addr):Prop where
 pg:PySem.W.plainGet K C Str.empty=true
 hd:PySem.W.hasDictIn K C=true
 po:PySem.W.plainOver K C=true
 sa:PySem.W.findIn K (.ref C) "__setattr__"=some (some (.builtin "object.__setattr__"))
theorem Cls.get {K:PySem.W.Frag}{C:Addr}(c:Cls K C)(f:Str):PySem.W.plainGet K C f=true:=c.pg
section
variable {X:Cx} {pins:List (Addr×Obj)} {σ:St} {H:Hp} {s:Shared} {A:Around} {E:Value->Shared->Prop} {Q:Value->Shared->Prop} {c:Value} {b:Bool}
inductive Y0 (K:PySem.W.Frag)(H:Hp):V->Value->Prop where
 |non:Y0 K H .non (.type "NoneType")
 |bl (x:Bool):Y0 K H (.bl x) (.type "bool")
 |int (i:Int):Y0 K H (.int i) (.type "int")
 |str (x:Str):Y0 K H (.str x) (.type "str")
 |flt (x:UInt64):Y0 K H (.flt x) (.type "float")
 |lst {a:Addr} {xs:List V} (e:H a=some (.lst xs)):Y0 K H (.ref a) (.type "list")
 |frz {a:Addr} {o:Obj} {xs:List V} (e:H a=some (.frz o (.lst xs))):Y0 K H (.ref a) (.type "list")
 |tup {a:Addr} {xs:List V} (e:H a=some (.tup xs)):Y0 K H (.ref a) (.type "tuple")
 |dK {a:Addr} {kvs:List (o9×V)} (e:H a=some (.dK kvs)):Y0 K H (.ref a) (.type "dict")
 |dT {a:Addr} {kvs:List (List o9×V)} (e:H a=some (.dT kvs)):Y0 K H (.ref a) (.type "dict")
 |ins {a C dx:Addr} {fs:List (Str×V)} (e:H a=some (.ins C dx fs)) (cl:Cls K C) (ha:PySem.W.findIn K (.ref C) "__class__"=some (some (.builtin "object.__class__")))
     (hn:PySem.W.specialIn K (.builtin "object.__class__") "__get__"=some (some (.builtin "getset_descriptor.__get__"))) (htk:PySem.W.takesIn K (.builtin "object.__class__")=some true)
     (hm:PySem.W.mroIn K C (.type "object")=some true):Y0 K H (.ref a) (.ref C)
theorem cn2 {x:V}{u t:Value}(I:i5 X pins σ H s)(rx:o5 x u)(ty:Y0 X.K H x t)(e:PySem.W.kitOne X.K t c=some b)(h:∀tk,Q (.bool b) {s with toks:=tk}):
   wpAny (model X.prog X.w) A (call (.builtin "isinstance") [u,c]) Q E s:=by
 cases ty with
 |non=>cases (show u=Value.none from rx);exact PySem.W.kia_one PySem.W.kitx_none I.kIn True.intro e (fun z=>nomatch z) h
 |bl y=>cases (show u=Value.bool y from rx);exact PySem.W.kia_one PySem.W.kitx_bool I.kIn True.intro e (fun z=>nomatch z) h
 |int i=>obtain ⟨t,q⟩:=(show ∃t,u=Value.int i t from rx);cases q;exact PySem.W.kia_one PySem.W.kitx_int I.kIn True.intro e (fun z=>nomatch z) h
 |str y=>obtain ⟨t,q⟩:=(show ∃t,u=Value.str y t from rx);cases q;exact PySem.W.kia_one PySem.W.kitx_str I.kIn True.intro e (fun z=>nomatch z) h
 |flt y=>obtain ⟨t,q⟩:=(show ∃t,u=Value.float y t from rx);cases q;exact PySem.W.kia_one PySem.W.kitx_float I.kIn True.intro e (fun z=>nomatch z) h
 |@lst a xs ea=>
  cases (show u=Value.ref a from rx);obtain ⟨_,_,n,_,h1⟩:=(show B9 X.prog X.w H s.heap a (.lst xs) from I.hok a _ ea);exact PySem.W.kia_one PySem.W.kitx_list I.kIn ⟨_,h1,rfl⟩ e (fun z=>nomatch z) h
 |@frz a ob xs ea=>
  cases (show u=Value.ref a from rx);obtain ⟨_,_,_,n,_,h1⟩:=(show B9 X.prog X.w H s.heap a (.frz ob (.lst xs)) from I.hok a _ ea);exact PySem.W.kia_one PySem.W.kitx_list I.kIn ⟨_,h1,rfl⟩ e (fun z=>nomatch z) h
 |@tup a xs ea=>
  cases (show u=Value.ref a from rx);obtain ⟨_,_,_,p⟩:=(show B9 X.prog X.w H s.heap a (.tup xs) from I.hok a _ ea);obtain ⟨o,h1,h2,_⟩:=p;exact PySem.W.kia_one PySem.W.kitx_tuple I.kIn ⟨o,h1,h2⟩ e (fun z=>nomatch z) h
 |@dK a kvs ea=>
  cases (show u=Value.ref a from rx);obtain ⟨_,_,vs,_,p⟩:=(show B9 X.prog X.w H s.heap a (.dK kvs) from I.hok a _ ea);obtain ⟨o,es,ep,h1,h2,_⟩:=p;exact PySem.W.kia_one PySem.W.kitx_dict I.kIn ⟨o,h1,h2.1⟩ e (fun z=>nomatch z) h
 |@dT a kvs ea=>
  cases (show u=Value.ref a from rx);obtain ⟨_,_,xs,_,o,es,ep,h1,h2,_⟩:=(show B9 X.prog X.w H s.heap a (.dT kvs) from I.hok a _ ea);exact PySem.W.kia_one PySem.W.kitx_dict I.kIn ⟨o,h1,h2.1⟩ e (fun z=>nomatch z) h
 |@ins a C dx fs ea cl ha hn htk hm=>
  cases (show u=Value.ref a from rx);obtain ⟨mA,O,_⟩:=dc1 I.hok ea;obtain ⟨od,J,_⟩:=O.look;exact PySem.W.kia_one (PySem.W.kitx_own (cl.get _) cl.hd ha hn htk hm) I.kIn J e (fun z=>nomatch z) h
end
end L2
namespace L2
local macro_rules|`(tactic|omega)=>`(tactic|lia)
open PySem PySem.Spec PyProof.Rows
structure l9 (k:Nat)(A:Around):Prop where
 hd:A.handled=none
 dp:A.depth+3*k+5 < recursionLimit
 un:A.units+16*k+200 < cLine
 gd:A.guards=some []
theorem l9.mono {j k:Nat}{A:Around}(r:l9 k A)(h:j<=k):l9 j A:=⟨r.hd,by have:=r.dp;omega,by have:=r.un;omega,r.gd⟩
theorem l9.deeper {k:Nat}{A:Around}(r:l9 (k+1) A)(env:Env):l9 k (A.deeper env):=
 ⟨r.hd,by have:=r.dp;show A.depth+1+3*k+5 < _;omega,by have:=r.un;show A.units+3+16*k+200 < _;omega,r.gd⟩
theorem l9.depth {k:Nat}{A:Around}(r:l9 k A):A.depth < recursionLimit:=by have:=r.dp;omega
theorem l9.units {k:Nat}{A:Around}(r:l9 k A):A.units+64 < cLine:=by have:=r.un;omega
def dj5:TA:=fun _ H Q=>Q [] H
def da6 (ta:TE)(tr:TA):TA:=fun σ H Q=>ta σ H fun x H1=>tr σ H1 fun xs H2=>Q (x::xs) H2
section
variable {X:Cx} {e:Expr} {es:List Expr} {te:TE} {t:TA} {pos:Pos}
theorem c6:PA X [] dj5:=fun _ _ _ _ H Q I h=>Calls.spliced_nil ⟨[],H,I,.nil,h⟩
theorem c5 (ha:PE X e te)(hr:PA X es t)(hs:starEach (e::es) X.env=(false,eval e X.env)::starEach es X.env:=by rfl):PA X (e::es) (da6 te t):=by
 intro pos pins s σ H Q I h;rw[hs];show wpAny _ _ (spliced ((false,eval e X.env)::backTo pos (starEach es X.env))) _ _ s;refine Calls.spliced_cons (q0 (ha pins s σ H _ I h) fun u s1 ⟨x,H1,I1,r1,q1⟩=> ?_)
 exact q0 (hr pos pins s1 σ H1 _ I1 q1) fun us s2 ⟨xs,H2,I2,r2,q2⟩=>⟨x::xs,H2,I2,.cons r1 r2,q2⟩
def dv9 (t:TA):TE:=fun σ H Q=>t σ H fun xs H1=>xs.length<=sizeLine/\∀p,H1 p=none->Q (.ref p) (c9 H1 p (.tup xs))
def dw0 (t:TA):TE:=fun σ H Q=>t σ H fun xs H1=>xs.length<=sizeLine/\∀p,H1 p=none->Q (.ref p) (c9 H1 p (.lst xs))
theorem ad8 {x1}(h:PA X es t):PE X (.Tuple es x1 pos) (dv9 t):=by
 intro pins s σ H Q I hq;refine wpAny_Tuple_spliced (q0 (h pos pins s σ H _ I hq) fun us s1 ⟨xs,H1,I1,r,z,q⟩=>⟨by rw[<-r.length];exact z,?_⟩);have hf:H1 s1.heap.objs.size=none:=I1.hok.fresh (dz3 _);refine ⟨.ref s1.heap.objs.size,c9 H1 s1.heap.objs.size (.tup xs),I1.laid (t':=s1.toks) (fun b u e=>Heap.get?_push_of_some _ e) (dz3 _) ?_,rfl,q _ hf⟩;exact ⟨z,us,r,⟨_,Heap.get?_push_size _ rfl,rfl,_,rfl⟩⟩
theorem o8 (h:PA X es t):PE X (.List es pos) (dw0 t):=by
 intro pins s σ H Q I hq;refine wpAny_List_spliced (q0 (h pos pins s σ H _ I hq) fun us s1 ⟨xs,H1,I1,r,z,q⟩=>⟨by rw[<-r.length];exact z,?_⟩);have hf:H1 s1.heap.objs.size=none:=I1.hok.fresh (dz3 _);refine ⟨.ref s1.heap.objs.size,c9 H1 s1.heap.objs.size (.lst xs),I1.laid (t':=s1.toks) (fun b u e=>Heap.get?_push_of_some _ e) (dz3 _) ?_,rfl,q _ hf⟩;exact ⟨z,us,0,r,Heap.get?_push_size _ rfl⟩
end
abbrev Sp:=List V->Hp->VK->XK->Prop
abbrev CXT:=List Env->Hp->Shared->XK->Value->Shared->Prop
structure ci9 (P:Program)(w:World)(K:PySem.W.Frag)(mg:Str->Option Value)(base:Heap)(A:Around)(outer:List Env)(s:Shared)(H:Hp):Prop where
 frames:A.frames=some outer
 mod:Mod K mg base
 bs:∀b o,base.get? b=some o->s.heap.get? b=some o/\H b=none
 bsz:base.objs.size<=s.heap.objs.size
 funs:s.heap.FunFrames base outer
 frf:∀b∈J6 outer,H b=none
 hok:K5 P w H s.heap
 bare:AllBare s.gens
def CE (outer:List Env)(P:Program)(w:World)(H:Hp)(s:Shared)(Q:VK)(u:Value)(s':Shared):Prop:=
 ∃v H',s'.os=s.os/\AllBare s'.gens/\Un (J6 outer) [] H H' s.heap s'.heap/\K5 P w H' s'.heap/\o5 v u/\Q v H'
def CR (CX:CXT)(outer:List Env)(P:Program)(w:World)(H:Hp)(s:Shared)(Q:VK)(E:XK)(r:Result)(s':Shared):Prop:=
 match r with
 | .ok (.ret u)=>CE outer P w H s Q u s'
 | .ok _=>False
 | .error e=>CX outer H s E e s'
structure n6 (P:Program)(w:World)(K:PySem.W.Frag)(mg:Str->Option Value)(base:Heap)(CX:CXT)(k:Nat)(f:Addr)(fd:FuncData)(ps:List Str)(sp:Sp):Prop where
 len:∀vs H Q E,sp vs H Q E->vs.length=ps.length
 run:∀(A:Around) (outer:List Env) (s:Shared) (H:Hp) (args:Args) (us:List Value) (vs:List V) (Q:VK) (E:XK),l9 k A->ci9 P w K mg base A outer s H->BindsTo s fd args (ps.zip us)->m7 vs us->sp vs H Q E->
   codeAny (model P w) A (.call (.ref f) args) (CR CX outer P w H s Q E) s
section
variable {X:Cx} {pins:List (Addr×Obj)} {σ:St} {H:Hp} {s s':Shared}
theorem i5.env0 (I:i5 X pins σ H s):ci9 X.prog X.w X.K X.mg X.base X.A X.stack s H:=
 ⟨I.ok.frames,I.ok.mod,I.bs,ea4 I.ok.bsz I.sz,I.stack,I.stkFree,I.hok,I.bare⟩
theorem i5.after {Q:VK}{u:Value}(I:i5 X pins σ H s)(h:CE X.stack X.prog X.w H s Q u s'):EP X pins σ Q u s':=by
 obtain ⟨v,H',os,bare,un,hok,r,q⟩:=h;obtain ⟨hh,g,d,t,os'⟩:=s';obtain rfl:os'=s.os:=os;exact ⟨v,H',I.call (h':=hh) (g':=g) (d':=d) (t':=t) (ch:=[]) un hok bare (fun b z=>absurd z (by simp)),r,q⟩
end
def bg6 (sp:Sp)(dvs:List V)(E:XK)(t:TA):TE:=fun σ H Q=>t σ H fun vs H1=>sp (vs++dvs) H1 Q E
def af9 (K:PySem.W.Frag)(fd:FuncData)(ps:List Str)(ds:List Value):Prop:=
 ∀(s:Shared) (us:List Value),K.In s.heap->(us++ds).length=ps.length->BindsTo s fd ⟨us,[]⟩ (ps.zip (us++ds))
theorem af9.all {K:PySem.W.Frag}{fd:FuncData}{ps:List Str}(h:∀us:List Value,us.length=ps.length->bindArgs fd ⟨us,[]⟩=pure (ps.zip us)):af9 K fd ps []:=fun s us _ hl=>by
 rw[eb8] at hl ⊢;exact .of_eq (h us hl)
def aw0 (CX:CXT)(X:Cx)(E:XK):Prop:=∀(pins:List (Addr×Obj)) (σ:St) (H:Hp) (s:Shared) (e:Value) (s':Shared),i5 X pins σ H s->CX X.stack H s E e s'->X.xe e s'
section
variable {X:Cx} {CX:CXT} {k:Nat} {f C:Addr} {fd:FuncData} {ps:List Str} {sp:Sp} {dvs:List V} {ds:List Value} {E:XK} {x m:Str} {p pos apos:Pos} {e o:Expr} {es:List Expr} {ta:TE} {t:TA}
theorem dj6 {pins:List (Addr×Obj)}{σ:St}{H:Hp}{s:Shared}{Q:VK}{us:List Value}{vs:List V}(F:n6 X.prog X.w X.K X.mg X.base CX k f fd ps sp)(hr:l9 k X.A)(hb:af9 X.K fd ps ds)(hd:m7 dvs ds)(hx:aw0 CX X E)
   (I:i5 X pins σ H s) (r:m7 vs us) (h:sp (vs++dvs) H Q E):wpAny (model X.prog X.w) X.A (call (.ref f) us) (EP X pins σ Q) X.xe s:=by
 have r2:m7 (vs++dvs) (us++ds):=r.append hd
 have hl:(us++ds).length=ps.length:=by rw[<-r2.length];exact F.len _ _ _ _ h
 refine wpAny_call (codeAny_mono (F.run X.A X.stack s H ⟨us,[]⟩ (us++ds) (vs++dvs) Q E hr I.env0 (hb s us I.kIn hl) r2 h) fun r s' hq=> ?_)
 cases r with
 |error e=>exact hx pins σ H s e s' I hq
 |ok fl=>
  cases fl with
  |ret u=>exact I.after hq
  |next=>exact False.elim hq
  |brk=>exact False.elim hq
  |cont=>exact False.elim hq
theorem ce3 (F:n6 X.prog X.w X.K X.mg X.base CX k f fd ps sp)(hr:l9 k X.A)(hg:Gl X x)(hm:X.mg x=some (.ref f))(hk:PySem.W.keepIn X.K (.ref f)=true)(hb:af9 X.K fd ps ds)(hd:m7 dvs ds)(hx:aw0 CX X E)
   (ha:PA X (e::es) t) (hdb:(x==("__debug__":Str))=false:=by decide) (he:starEach (e::es) X.env=(false,eval e X.env)::starEach es X.env:=by rfl) (hpl:(backTo pos (starEach es X.env)).any (·.1)=false:=by rfl):
   PE X (.Call (.Name x p) (e::es) [] pos) (bg6 sp dvs E t):=by
 intro pins s σ H Q I h;refine wpAny_Call_Name_kw (am9 I hg hm ?_ hdb);refine PySem.W.callWith_K (h₀:=X.base) I.ok.mod.kin hk (q0 (ha pos pins s σ H _ I h) fun us s1 ⟨vs,H1,I1,r,q⟩=>⟨I1.kIn,?_⟩) he hpl;exact dj6 F hr hb hd hx I1 r q
end
structure m9 (N P:List Str)(sc:Scope):Prop where
 kind:sc.kind= .function
 co:sc.isCoroutine=false
 gen:sc.isGenerator=false
 nd:N.Nodup
 pre:N.take P.length=P
 par:∀x∈P,sc.names.lookup x=some .local\/sc.names.lookup x=some .cell
 nofree:∀y∈sc.names,y.2≠.free
theorem bo3 {kindOf:Str->Option NameKind}{x:Str}:∀{binds:List (Str×Value)} {m:Str->Option Value},(∀v,(x,v)∉binds)->bindL kindOf binds m x=m x
 |[],_,_=>rfl
 |(n,v)::r,m,h=>by
  unfold bindL;rw[bo3 fun w hw=>h w (ea0 _ hw)]
  split
  · have:x≠n:=by rintro rfl;exact h v dz7
    simp [this]
  · rfl
theorem bo4 {kindOf:Str->Option NameKind}{x:Str}:∀{binds:List (Str×Value)} {m:Str->Option Value},(∀v,(x,v)∉binds)->bindC kindOf binds m x=m x
 |[],_,_=>rfl
 |(n,v)::r,m,h=>by
  unfold bindC;rw[bo4 fun w hw=>h w (ea0 _ hw)]
  split
  · rfl
  · have:x≠n:=by rintro rfl;exact h v dz7
    simp [this]
theorem bo5 {kindOf:Str->Option NameKind}{x:Str}{v:Value}:∀{P:List Str} {vs:List Value} {i:Nat} {m:Str->Option Value},P.Nodup->P[i]? =some x->vs[i]? =some v->kindOf x=some .local->
   bindL kindOf (P.zip vs) m x=some v
 |[],_,_,_,_,h,_,_=>by simp at h
 |_::_,[],_,_,_,_,h,_=>by simp at h
 |p::P,w::vs,0,m,nd,h1,h2,hk=>by
  simp at h1 h2;subst h1;subst h2;show bindL kindOf ((p,w)::P.zip vs) m p=_;unfold bindL;rw[bo3 fun v hv=>(ed6.mp nd).1 (eu9 hv).1,if_pos hk];simp
 |p::P,w::vs,i+1,m,nd,h1,h2,hk=>by
  show bindL kindOf ((p,w)::P.zip vs) m x=_;unfold bindL;exact bo5 (i:=i) (ed6.mp nd).2 (by simpa using h1) (by simpa using h2) hk
theorem bo6 {kindOf:Str->Option NameKind}{x:Str}{v:Value}:∀{P:List Str} {vs:List Value} {i:Nat} {m:Str->Option Value},P.Nodup->P[i]? =some x->vs[i]? =some v->kindOf x≠some .local->
   bindC kindOf (P.zip vs) m x=some v
 |[],_,_,_,_,h,_,_=>by simp at h
 |_::_,[],_,_,_,_,h,_=>by simp at h
 |p::P,w::vs,0,m,nd,h1,h2,hk=>by
  simp at h1 h2;subst h1;subst h2;show bindC kindOf ((p,w)::P.zip vs) m p=_;unfold bindC;rw[bo4 fun v hv=>(ed6.mp nd).1 (eu9 hv).1,if_neg hk];simp
 |p::P,w::vs,i+1,m,nd,h1,h2,hk=>by
  show bindC kindOf ((p,w)::P.zip vs) m x=_;unfold bindC;exact bo6 (i:=i) (ed6.mp nd).2 (by simpa using h1) (by simpa using h2) hk
def ad1 (N:List Str)(vs:List V):St:=vs.map some++ec3 (N.length - vs.length) none
def x9 (CX:CXT)(P:Program)(w:World)(K:PySem.W.Frag)(mg:Str->Option Value)(base:Heap)(N:List Str)(qual:Str)(scope:Scope)(f:Addr)(cd:Value)(A:Around)(outer:List Env)(s:Shared)(H:Hp)(E:XK):Cx where
 prog:=P
 w:=w
 K:=K
 mg:=mg
 base:=base
 A:=A.deeper (envOfC qual scope s.heap.objs.size f cd)
 N:=N
 s₀:=s
 H₀:=H
 env:=envOfC qual scope s.heap.objs.size f cd
 outer:=outer
 stack:=envOfC qual scope s.heap.objs.size f cd::outer
 ex:=[]
 calm:=true
 fn:=fun _=>true
 pn:=[]
 xe:=fun e s'=>wpAny (model P w) (A.deeper (envOfC qual scope s.heap.objs.size f cd)) (leaving (envOfC qual scope s.heap.objs.size f cd) e) (fun _ s''=>CX outer H s E e s'') (fun e' s''=>CX outer H s E e' s'') s'
theorem bu8 {sc:Scope}{n:Nat}{x:Str}(h:sc.names.lookup x=some .cell):∃c,(cellsFrom n sc.names []).lookup x=some c:=by
 have q:=PySem.W.cellsFrom_some sc.names n [] (.inl h);exact ep0.mp q
theorem cn3 {CX:CXT}{P:Program}{w:World}{K:PySem.W.Frag}{mg:Str->Option Value}{base:Heap}{N ps:List Str}{qual:Str}{scope:Scope}{f:Addr}{cd:Value}{A:Around}{outer:List Env}{s s1:Shared}{H:Hp}{E:XK}{us:List Value}{vs:List V}
   (S:m9 N ps scope) (hd:A.handled=none) (e0:ci9 P w K mg base A outer s H) (hl:vs.length=ps.length) (r:m7 vs us)
   (x:InCallC s s.heap.objs.size (bindL (envOfC qual scope s.heap.objs.size f cd).kindOf (ps.zip us) fun _=>none) (cellsFrom (s.heap.objs.size+1) scope.names []) (bindC (envOfC qual scope s.heap.objs.size f cd).kindOf (ps.zip us) fun _=>none) s1):
   i5 (x9 CX P w K mg base N qual scope f cd A outer s H E) [] (ad1 N vs) H s1:=by
 have hpl:ps.length<=N.length:=by have:=congrArg List.length S.pre;rw[eb2] at this;omega
 obtain ⟨h1,tk,rfl,hk⟩:=x.done
 have noA:∀b:Addr,b∉(x9 CX P w K mg base N qual scope f cd A outer s H E).ex:=fun b z=>absurd (show b∈([]:List Addr) from z) (by simp)
 refine ⟨⟨e0.mod,S.kind,rfl,rfl,dz3 _,fun y z c h1 h2=> ?_,fun y hy=> ?_,fun y c _ h=> ?_,fun _=>hd,Around.frames_deeper e0.frames,.inr ⟨rfl,rfl⟩,fun b z=>absurd z (noA b),e0.bs,e0.bsz,fun b _ _=>noA b,fun b z=>absurd z (noA b),e0.funs,e0.frf⟩,
   rfl,e0.bare,Un.kept hk,⟨_,x.toInCall.ns,fun i y v h1 h2 h3=> ?_⟩,fun y c h=>⟨_,x.cell y c h⟩,e0.hok.fresh (dz3 _),fun y c h=> ?_,fun p hp=>absurd (show p∈([]:List (Addr×Obj)) from hp) (by simp),e0.hok.kept hk,?_⟩
 · exact name_of_addr x.apart (PySem.mem_of_lookup h1) (PySem.mem_of_lookup h2)
 · have hy:scope.names.lookup y=some .cell\/scope.names.lookup y=some .free:=hy
   rcases hy with hy|hy
   · exact bu8 hy
   · exact absurd rfl (S.nofree _ (PySem.mem_of_lookup hy))
 · exact eg2 (x.above y c (PySem.mem_of_lookup h))
 · have hi:i < vs.length:=by
     unfold ad1 at h2
     by_cases hi:i < vs.length
     · exact hi
     · rw[eb9 (by simpa using hi)] at h2;rw[eu0] at h2
       split at h2<;>cases h2
   have ha:vs[i]? =some v:=by
     unfold ad1 at h2;rw[eb6 (by simpa using hi),dz4] at h2
     cases e:vs[i]? with
     |none=>rw[e] at h2;cases h2
     |some a=>rw[e] at h2;cases h2;rfl
   obtain ⟨u,hu,rv⟩:=r.get ha
   have hp:ps[i]? =some y:=by
     rw[<-S.pre,ef8 (by omega)];exact h1
   have ndP:ps.Nodup:=by rw[<-S.pre];exact S.nd.sublist (List.take_sublist _ _)
   refine ⟨u,rv,?_⟩
   rcases S.par y (dz8 hp) with k|k
   · exact .inl ⟨k,bo5 ndP hp hu k⟩
   · obtain ⟨c,e⟩:=bu8 (n:=s.heap.objs.size+1) k;refine .inr ⟨.inl k,c,e,?_⟩;have q:=x.cell y c e;rw[bo6 ndP hp hu (by show scope.names.lookup y≠_;rw[k];decide)] at q;exact q
 · exact e0.hok.fresh (eg2 (x.above y c (PySem.mem_of_lookup h)))
 · unfold ad1;show _=N.length;rw[dz9,dz0,ek4];omega
theorem da7 {CX:CXT}{P:Program}{w:World}{K:PySem.W.Frag}{mg:Str->Option Value}{base:Heap}{k:Nat}{f:Addr}{name qual:Str}{params:Arguments}{body:List Stmt}{scope:Scope}{dV kV doc pm cdv ct oc:Value}{an od:Option Addr}
   {osl:Array (Option Value)} {N ps:List Str} {sp:Sp} (lk:K.lookup f=some ⟨oc,od,.func (PySem.W.fnOf name qual params body scope dV kV doc pm an cdv ct),osl⟩) (hcd:PySem.W.codeIn K cdv qual=true) (S:m9 N ps scope)
   (len:∀vs H Q E,sp vs H Q E->vs.length=ps.length)
   (hbody:∀(A:Around) (outer:List Env) (s:Shared) (H:Hp) (vs:List V) (Q:VK) (E:XK),l9 k (A.deeper (envOfC qual scope s.heap.objs.size f cdv))->sp vs H Q E->
     ∃t,Z7 (x9 CX P w K mg base N qual scope f cdv A outer s H E) body t/\t {nx:=fun _ H'=>Q .non H',rt:=Q} (ad1 N vs) H):
   n6 P w K mg base CX (k+1) f (PySem.W.fnOf name qual params body scope dV kV doc pm an cdv ct) ps sp:=by
 refine ⟨len,fun A outer s H args us vs Q E hr e0 hb r hsp=> ?_⟩;have hl:=len _ _ _ _ hsp
 have KX:K.In s.heap:=e0.mod.kin.keeps fun b o e=>(e0.bs b o e).1
 have lim:s.heap.NoLimit:=e0.mod.nolimit.keeps fun b o e=>(e0.bs b o e).1
 have hkind:∀y∈ps.zip us,scope.names.lookup y.1=some .local\/(scope.names.lookup y.1=some .cell/\((cellsFrom (s.heap.objs.size+1) scope.names []).lookup y.1).isSome=true):=fun ⟨n,v⟩ hy=>by
   rcases S.par n (eu9 hy).1 with q|q
   · exact .inl q
   · exact .inr ⟨q,PySem.W.cellsFrom_some _ _ _ (.inl q)⟩
 refine codeAny_call_function hr.depth (KX _ _ lk) rfl S.co S.gen rfl (PySem.W.codeRec_of KX hcd) (hb _ _ _ _ ?_)
 refine wpAny_newFunctionEnv_cells S.kind hkind fun env he s1 x=> ?_
 subst he;refine ⟨lim.keeps x.toInCall.keep,codeAny_func ?_⟩;obtain ⟨t,ht,hq⟩:=hbody A outer s H vs Q E (hr.deeper _) hsp;have I:i5 (x9 CX P w K mg base N qual scope f cdv A outer s H E) [] (ad1 N vs) H s1:=cn3 S hr.hd e0 hl r x
 refine wpAny_mono (ht [] s1 (ad1 N vs) H _ I hq) (fun fl s' hs=> ?_) fun e s' hs=>hs
 have fin:∀{σ':St} {H':Hp} {v:V} {u:Value},i5 (x9 CX P w K mg base N qual scope f cdv A outer s H E) [] σ' H' s'->o5 v u->Q v H'->CE outer P w H s Q u s':=
   fun {σ' H' v u} J rv q=>⟨v,H',J.os,J.bare,J.base,J.hok,rv,q⟩
 cases fl with
 |ret u=>
  obtain ⟨v,σ',H',J,rv,q⟩:=hs;exact fin J rv q
 |next=>
  obtain ⟨σ',H',J,q⟩:=hs;exact fin (v:=V.non) (u:=Value.none) J rfl q
 |brk=>
  obtain ⟨_,_,_,q⟩:=hs;exact False.elim q
 |cont=>
  obtain ⟨_,_,_,q⟩:=hs;exact False.elim q
end L2
namespace L2
local macro_rules|`(tactic|omega)=>`(tactic|lia)
open PySem PySem.Spec PyProof.Rows
section
variable {X:Cx} {x:Str} {p pos:Pos} {e:Expr} {es:List Expr} {t:TA} {id T:String} {r:List V->Hp->VK->Prop}
def tCB (r:List V->Hp->VK->Prop)(t:TA):TE:=fun σ H Q=>t σ H fun vs H1=>r vs H1 Q
theorem Y1 (hc:X7 X (.builtin id) r)(hg:Gl X x)(hm:X.mg x=none)(hv:bootBuiltins x=some (.builtin id))(ha:PA X (e::es) t)(hn:x≠"__name__":=by decide)(hdb:(x==("__debug__":Str))=false:=by decide)
   (he:starEach (e::es) X.env=(false,eval e X.env)::starEach es X.env:=by rfl) (hpl:(backTo pos (starEach es X.env)).any (·.1)=false:=by rfl):PE X (.Call (.Name x p) (e::es) [] pos) (tCB r t):=by
 intro pins s σ H Q I h;refine wpAny_Call_Name_kw (an0 I hg hm hv ?_ hn hdb);exact PyProof.Rows.callWith_builtin1 (q0 (ha pos pins s σ H _ I h) fun us s1 ⟨vs,H1,I1,r1,q1⟩=>hc pins s1 σ H1 vs us Q I1 r1 q1) he hpl
theorem aw1 (hc:X7 X (.type T) r)(hg:Gl X x)(hm:X.mg x=none)(hv:bootBuiltins x=some (.type T))(ha:PA X (e::es) t)(hn:x≠"__name__":=by decide)(hdb:(x==("__debug__":Str))=false:=by decide)
   (he:starEach (e::es) X.env=(false,eval e X.env)::starEach es X.env:=by rfl) (hpl:(backTo pos (starEach es X.env)).any (·.1)=false:=by rfl):PE X (.Call (.Name x p) (e::es) [] pos) (tCB r t):=by
 intro pins s σ H Q I h;refine wpAny_Call_Name_kw (an0 I hg hm hv ?_ hn hdb);exact PyProof.Rows.callWith_type1 (q0 (ha pos pins s σ H _ I h) fun us s1 ⟨vs,H1,I1,r1,q1⟩=>hc pins s1 σ H1 vs us Q I1 r1 q1) he hpl
end
end L2
namespace HT
local macro_rules|`(tactic|omega)=>`(tactic|lia)
open PySem PyProof.Rows
def ba0:List Int->List Int->Bool
 |[],[]=>false
 |[],_::_=>true
 |_::_,[]=>false
 |x::xs,y::ys=>if x=y then ba0 xs ys else decide (x < y)
theorem cj0 (x y:Int)(xs ys:List Int):ba0 (x::xs) (y::ys)=if x=y then ba0 xs ys else decide (x < y):=rfl
theorem dc2 (y:Int)(ys:List Int):ba0 [] (y::ys)=true:=rfl
theorem cv0 (A:Around)(s:Shared)(a:Int)(t:Tok)(c:Int)(u:Tok):∃e,SeqAt.EqAt A s (.int a t) (.int c u) e/\(e=true↔a=c):=
 ⟨(a==c),SeqAt.EqAt.int_int a t c u,by simp⟩
theorem cv5 (A:Around)(s:Shared)(a:Int)(t:Tok)(c:Int)(u:Tok)(prog:Program)(w:World)(E:Value->Shared->Prop)(Q:Value->Shared->Prop)(h:Q (.bool (decide (a < c))) s):
   wpAny (model prog w) A (richCompare .Lt (.int a t) (.int c u)) Q E s:=
 (PyProof.Rows.lt_int h:wpAny (model prog w) A (compareOp .Lt (.int a t) (.int c u)) Q E s)
section
variable {prog:Program} {w:World} {A:Around} {E:Value->Shared->Prop} {s:Shared}
def sIx (n d:Nat):Option Int->Nat
 |none=>d
 |some v=>if v < 0 then (v+(n:Int)).toNat else min v.toNat n
theorem dw1 (n d:Nat):sIx n d none=d:=rfl
theorem dx3 (n d k:Nat):sIx n d (some (k:Int))=min k n:=by
 show (if (k:Int) < 0 then ((k:Int)+(n:Int)).toNat else min (k:Int).toNat n)=min k n;rw[if_neg (by omega),ee0]
end
end HT
namespace L2
local macro_rules|`(tactic|omega)=>`(tactic|lia)
open PySem PySem.Spec PyProof.Rows
abbrev TO:=St->Hp->(Option Int->Hp->Prop)->Prop
def PO (X:Cx)(e:Option Expr)(t:TO):Prop:=
 ∀(pins:List (Addr×Obj)) (s:Shared) (σ:St) (H:Hp) (Q:Option Int->Hp->Prop),i5 X pins σ H s->t σ H Q->
  wpAny (model X.prog X.w) X.A (evalPart e X.env) (fun u s'=>∃o H',i5 X pins σ H' s'/\IsPart u o/\Q o H') X.xe s
def dc3:TO:=fun _ H Q=>Q none H
def dq0 (t:TE):TO:=fun σ H Q=>t σ H fun x H1=>∃i,x= .int i/\Q (some i) H1
theorem bg7 {ns:List Int}:∀{us:List Value},m7 (ns.map V.int) us->IntsAre us ns:=by
 induction ns with
 |nil=>intro us r;rw[em6] at r;cases r;exact .nil
 |cons n ns ih=>
  intro us r;rw[ed3] at r
  cases r with
  |cons r1 r2=>
   obtain ⟨t,e⟩:=r1;subst e;exact .cons n t (ih r2)
section
variable {X:Cx} {e:Expr} {te:TE} {lo hi:Option Expr} {tl th:TO} {pos p2:Pos}
theorem ag2:PO X none dc3:=by
 intro pins s σ H Q I h;rw[evalPart_none];exact wpAny_pure ⟨none,H,I,.none,h⟩
theorem ab3 (h:PE X e te):PO X (some e) (dq0 te):=by
 intro pins s σ H Q I hw;rw[evalPart_some]
 refine q0 (h pins s σ H _ I hw) fun u s1 ⟨x,H1,I1,r1,q1⟩=> ?_
 obtain ⟨i,rfl,q⟩:=q1;obtain ⟨t,rfl⟩:=r1;exact ⟨some i,H1,I1,.int i t,q⟩
def SlR (X:Cx)(r:V->Option Int->Option Int->Hp->VK->Prop):Prop:=
 ∀(pins:List (Addr×Obj)) (s:Shared) (σ:St) (H:Hp) (x:V) (v vl vu:Value) (lo hi:Option Int) (sl:Addr) (Q:VK),i5 X pins σ H s->o5 x v->s.heap.IsSliceOf sl vl vu .none->IsPart vl lo->IsPart vu hi->r x lo hi H Q->
  ∃T id,typeLookup (.type T) "__getitem__"=pure (some (.builtin id))/\s.TypeIs v T/\wpAny (model X.prog X.w) X.A (getItem v (.ref sl)) (EP X pins σ Q) X.xe s
def tSl (r:V->Option Int->Option Int->Hp->VK->Prop)(te:TE)(tl th:TO):TE:=fun σ H Q=>te σ H fun x H1=>tl σ H1 fun l H2=>th σ H2 fun u H3=>r x l u H3 Q
theorem ab4 {r:V->Option Int->Option Int->Hp->VK->Prop}(hr:SlR X r)(he:PE X e te)(hl:PO X lo tl)(hu:PO X hi th):PE X (.Subscript e (.Slice lo hi none p2) pos) (tSl r te tl th):=by
 intro pins s σ H Q I h;refine Subscript_ (q0 (he pins s σ H _ I h) fun v s1 ⟨x,H1,I1,r1,q1⟩=> ?_);refine wpAny_Slice (q0 (hl pins s1 σ H1 _ I1 q1) fun vl s2 ⟨l,H2,I2,pl,q2⟩=>q0 (hu pins s2 σ H2 _ I2 q2) fun vu s3 ⟨u,H3,I3,pu,q3⟩=> ?_);rw[evalPart_none];refine wpAny_pure ?_
 have I4:i5 X pins σ H3 {s3 with heap:=s3.heap.push {cls:= .type "slice",data:= .fields #[vl,vu,.none]}}:=I3.kept (t':=s3.toks) fun b ob q=>Heap.get?_push_of_some _ q
 obtain ⟨T,id,hT,ht,hg⟩:=hr pins {s3 with heap:=s3.heap.push {cls:= .type "slice",data:= .fields #[vl,vu,.none]}} σ H3 x v vl vu l u s3.heap.objs.size Q I4 r1 (Heap.IsSliceOf.new ..) pl pu q3;show wpAny (model X.prog X.w) X.A (subscriptTail e (.Slice lo hi none p2) v (.ref s3.heap.objs.size)) (EP X pins σ Q) X.xe {s3 with heap:=s3.heap.push {cls:= .type "slice",data:= .fields #[vl,vu,.none]}};exact tail_any (ops:=[.ref s3.heap.objs.size,v]) ht hT hg (by with_unfolding_all rfl)
def Y2 (xs:List V)(lo hi:Option Int):List V:=(xs.drop (HT.sIx xs.length 0 lo)).take (HT.sIx xs.length xs.length hi - HT.sIx xs.length 0 lo)
theorem cc5 (xs:List V)(lo hi:Option Int):(Y2 xs lo hi).length<=xs.length:=by
 unfold Y2;rw[eb2,ed2];omega
end
end L2
namespace L2
local macro_rules|`(tactic|omega)=>`(tactic|lia)
open PySem PySem.Spec PyProof.Rows
def ixN (n:Nat)(i:Int):Option Nat:=if 0<=i then (if i < n then some i.toNat else none) else if -(n:Int)<=i then some (i+n).toNat else none
def atI {α:Type}(xs:List α)(i:Int):Option α:=(ixN xs.length i).bind fun j=>xs[j]?
theorem bk9 {n:Nat}{i:Int}{j:Nat}(h:ixN n i=some j):seqIndex? i n=some j/\j < n/\ -(n:Int)<=i/\i < n:=by
 unfold ixN at h
 by_cases h0:0<=i
 · rw[if_pos h0] at h
   by_cases h1:i < n
   · rw[if_pos h1] at h;have e:i.toNat=j:=Option.some.inj h;exact ⟨by rw[seqIndex_of h0 h1,e],by omega,by omega,h1⟩
   · rw[if_neg h1] at h;cases h
 · rw[if_neg h0] at h
   by_cases h1: -(n:Int)<=i
   · rw[if_pos h1] at h;have e:(i+n).toNat=j:=Option.some.inj h;exact ⟨by rw[seqIndex_neg (by omega) h1,e],by omega,h1,by omega⟩
   · rw[if_neg h1] at h;cases h
theorem dc4 {α:Type}{xs:List α}{i:Int}{v:α}(h:atI xs i=some v):∃j,seqIndex? i xs.length=some j/\xs[j]? =some v/\j < xs.length/\ -(xs.length:Int)<=i/\i < xs.length:=by
 unfold atI at h
 cases e:ixN xs.length i with
 |none=>rw[e] at h;cases h
 |some j=>
  rw[e] at h;obtain ⟨h1,h2,h3,h4⟩:=bk9 e;exact ⟨j,h1,h,h2,h3,h4⟩
theorem G9 {α:Type}{xs:List α}{j:Nat}{v:α}(h:xs[j]? =some v):atI xs (j:Int)=some v:=by
 have hj:j < xs.length:=(dz2.mp h).1
 have e:ixN xs.length (j:Int)=some j:=by
   unfold ixN;rw[if_pos (by omega),if_pos (by omega)];simp
 unfold atI;rw[e];exact h
def dc5 (b:Expr):Prop:=∀o i,subscripted b false o i=operate [o,i] (getItem o i)
def IxR (X:Cx)(r:R2):Prop:=
 ∀(value slice:Expr) (pins:List (Addr×Obj)) (s:Shared) (σ:St) (H:Hp) (x y:V) (v u:Value) (Q:VK),i5 X pins σ H s->o5 x v->o5 y u->r x y H Q->
  subscripted slice false v u=operate [v,u] (getItem v u)->wpAny (model X.prog X.w) X.A (subscriptTail value slice v u) (EP X pins σ Q) X.xe s
def MtR (X:Cx)(id:String)(r:V->List V->Hp->VK->Prop):Prop:=
 ∀(pins:List (Addr×Obj)) (s:Shared) (σ:St) (H:Hp) (x:V) (xs:List V) (v:Value) (us:List Value) (Q:VK),i5 X pins σ H s->o5 x v->m7 xs us->r x xs H Q->
  wpAny (model X.prog X.w) X.A (call (.builtin id) (v::us)) (EP X pins σ Q) X.xe s
section
variable {X:Cx} {a b:Expr} {ta tb:TE} {pos:Pos}
theorem J9 {r:R2}(hr:IxR X r)(ha:PE X a ta)(hb:PE X b tb)(hs:dc5 b):PE X (.Subscript a b pos) (tOp r ta tb):=by
 intro pins s σ H Q I h;exact Subscript_ (cu7 ha hb I h fun v u s2 x y H2 I2 rx ry q=>hr a b pins s2 σ H2 x y v u Q I2 rx ry q (hs _ _))
def dj7 (K:PySem.W.Frag):R2:=fun x y H Q=>∃p xs i v,x= .ref p/\y= .int i/\h8 K H p xs/\atI xs i=some v/\Q v H
theorem C5:IxR X (dj7 X.K):=by
 intro value slice pins s σ H x y v u Q I rx ry h hs;obtain ⟨p,xs,i,z,rfl,rfl,hq,he,q⟩:=h;cases rx;obtain ⟨t,rfl⟩:=ry;obtain ⟨its,r,pl,hz⟩:=I.list hq;obtain ⟨j,h1,h2,h3,h4,h5⟩:=dc4 he;obtain ⟨w,ew,rw'⟩:=r.get h2;have hl:=r.length;have hn:=bu7;have fin:EP X pins σ Q w s:=⟨z,H,I,rw',q⟩
 by_cases h0:0<=i
 · have hj:i.toNat=j:=by
     rw[seqIndex_of h0 h5] at h1;exact Option.some.inj h1
   exact item_listR pl.isList h0 (by omega) (by rw[hj];simpa using ew) fin hs
 · have hj:(i+(its.toArray.size:Int)).toNat=j:=by
     rw[seqIndex_neg (by omega) h4] at h1;rw[ea6,<-hl];exact Option.some.inj h1
   exact subscriptTail_builtinR (x:=w) pl.isList.typeIs slot_list_getitem.lookup
     (wpAny_getItem_list_neg (Q:=fun r s'=>r=w/\EP X pins σ Q r s') pl.isList (by omega) (by rw[ea6]<;>omega) (by omega) (by rw[hj];simpa using ew) ⟨rfl,fin⟩) hs
theorem cj1 (its:List Value)(n j:Nat)(u:Value):Obj.mapSeq (·.setIfInBounds j u) {cls:= .type "list",data:= .seq its.toArray n}={cls:= .type "list",data:= .seq (its.set j u).toArray n}:=by
 simp [Obj.mapSeq]
theorem i5.lst {pins:List (Addr×Obj)}{σ:St}{H:Hp}{s:Shared}{p:Addr}{xs:List V}(I:i5 X pins σ H s)(h:H p=some (.lst xs)):
   ∃(its:List Value) (n:Nat),m7 xs its/\s.heap.get? p=some {cls:= .type "list",data:= .seq its.toArray n}/\xs.length<=sizeLine:=by
 obtain ⟨z,its,n,r,e⟩:=I.hok p _ h;exact ⟨its,n,r,e,z⟩
theorem i5.lstUpd {pins:List (Addr×Obj)}{σ:St}{H:Hp}{s:Shared}{p:Addr}{xs ys:List V}{its its':List Value}{n n':Nat}{f:Obj->Obj}(I:i5 X pins σ H s)(h:H p=some (.lst xs))
   (ho:s.heap.get? p=some {cls:= .type "list",data:= .seq its.toArray n}) (hf:f {cls:= .type "list",data:= .seq its.toArray n}={cls:= .type "list",data:= .seq its'.toArray n'}) (r:m7 ys its') (hz:ys.length<=sizeLine) (t:Nat):
   i5 X pins σ (c9 H p (.lst ys)) {s with heap:=s.heap.update p f,toks:=t}:=by
 have e:(s.heap.update p f).get? p=some {cls:= .type "list",data:= .seq its'.toArray n'}:=by
   rw[Heap.get?_update_self f ho (by rw[hf]<;>rfl),hf]
 refine I.write (x:=p) (e:=p) (by rw[h];trivial) (.inl rfl) (fun b u hb q=>(Heap.get?_update_other _ _ (Ne.symm hb)).trans q) ⟨_,e⟩ ?_;exact ⟨hz,its',n',r,e⟩
def dq1:V->V->V->Hp->(Hp->Prop)->Prop:=fun o i v H Q=>∃p xs k j,o= .ref p/\i= .int k/\H p=some (.lst xs)/\ixN xs.length k=some j/\Q (c9 H p (.lst (xs.set j v)))
theorem ah0:di8 X dq1:=by
 intro pins s σ H o i v ov iv u Q I ro ri rv h;obtain ⟨p,xs,k,j,rfl,rfl,hp,hj,q⟩:=h;cases ro;obtain ⟨t,rfl⟩:=ri;obtain ⟨its,n,r,ho,hz⟩:=I.lst hp;obtain ⟨h1,h2,h3,h4⟩:=bk9 hj;have hl:=r.length;have hn:=bu7
 have I':i5 X pins σ (c9 H p (.lst (xs.set j v))) {s with heap:=s.heap.update p (Obj.mapSeq (·.setIfInBounds j u))}:=
   I.lstUpd hp ho (cj1 its n j u) (r.set rv j) (by rw[el9];exact hz) s.toks
 by_cases h0:0<=k
 · have hk:k.toNat=j:=by
     rw[seqIndex_of h0 h4] at h1;exact Option.some.inj h1
   exact PySem.W.ki_setAt ho h0 (by omega) (by rw[ea6,<-hl];exact h4) (by rw[hk];exact ⟨_,I',q⟩)
 · have hk:(k+(its.toArray.size:Int)).toNat=j:=by
     rw[seqIndex_neg (by omega) h3] at h1;rw[ea6,<-hl];exact Option.some.inj h1
   exact PySem.W.ki_setBack ho (by omega) (by rw[ea6,<-hl];exact h3) (by omega) (by rw[hk];exact ⟨_,I',q⟩)
theorem bu9 (lo hi:Option Int)(n:Nat):(sliceBounds lo hi none n).1=((HT.sIx n 0 lo:Nat):Int)/\(sliceBounds lo hi none n).2.1=((HT.sIx n n hi:Nat):Int)/\(sliceBounds lo hi none n).2.2=1:=by
 refine ⟨?_,?_,rfl⟩
 · cases lo with
   |none=>simp [sliceBounds,HT.sIx]
   |some i=>
    simp only[sliceBounds,HT.sIx,Option.getD_none,show (1:Int) > 0 by decide,if_true]
    by_cases h:i < 0
    · simp only[h,if_true]<;>omega
    · simp only[h,if_false]<;>omega
 · cases hi with
   |none=>simp [sliceBounds,HT.sIx]
   |some i=>
    simp only[sliceBounds,HT.sIx,Option.getD_none,show (1:Int) > 0 by decide,if_true]
    by_cases h:i < 0
    · simp only[h,if_true]<;>omega
    · simp only[h,if_false]<;>omega
theorem br9 (its:List Value)(lo hi:Option Int):slicePick its.toArray lo hi none=((its.drop (HT.sIx its.length 0 lo)).take (HT.sIx its.length its.length hi - HT.sIx its.length 0 lo)).toArray:=by
 obtain ⟨h1,h2,h3⟩:=bu9 lo hi its.toArray.size;unfold slicePick;rw[h1,h2,h3]
 simp only[sliceRange_one,pick_run,ea6]<;>rfl
def dw2 (K:PySem.W.Frag):V->Option Int->Option Int->Hp->VK->Prop:=fun x lo hi H Q=>∃a xs,x= .ref a/\h8 K H a xs/\∀p,H p=none->Q (.ref p) (c9 H p (.lst (Y2 xs lo hi)))
theorem ag3:SlR X (dw2 X.K):=by
 intro pins s σ H x v vl vu lo hi sl Q I rx hs pl pu h;obtain ⟨a,xs,rfl,hx,q⟩:=h;cases rx;obtain ⟨its,r,ht,hz⟩:=I.list hx;have hlen:=r.length;refine ⟨"list",_,slot_list_getitem.lookup,ht.isList.typeIs,?_⟩;refine wpAny_getItem_list_slice ht.isList hs pl pu .none (by simp) ?_ (by rw[ea6]<;>omega);rw[br9,<-hlen];refine ⟨.ref s.heap.objs.size,_,I.laid (t':=s.toks) (o:= .lst (Y2 xs lo hi)) (fun b ob q=>Heap.get?_push_of_some _ q) (dz3 _) ?_,rfl,q _ (I.hok.fresh (dz3 _))⟩;exact ⟨ea4 (cc5 xs lo hi) hz,_,0,(r.drop (HT.sIx xs.length 0 lo)).take (HT.sIx xs.length xs.length hi - HT.sIx xs.length 0 lo),Heap.get?_push_size _ rfl⟩
def O9:V->Bool
 | .non=>true
 | .bl _=>true
 | .int _=>true
 | .str _=>true
 |_=>false
def Z9:V->V->Bool
 | .non,.non=>true
 | .bl a,.bl b=>a==b
 | .bl a,.int b=>(if a then 1 else 0)==b
 | .int a,.bl b=>a==(if b then 1 else 0)
 | .int a,.int b=>a==b
 | .str a,.str b=>a==b
 |_,_=>false
theorem cn4 {A:Around}{s:Shared}{y x:V}{u v:Value}(ry:o5 y u)(rx:o5 x v)(fy:O9 y=true)(fx:O9 x=true):SeqAt.EqAt A s u v (Z9 y x):=by
 cases y with
 |non=>
  cases ry
  cases x with
  |non=>cases rx;exact SeqAt.EqAt.same _
  |bl b=>cases rx;exact SeqAt.EqAt.none_bool b
  |int b=>obtain ⟨t,rfl⟩:=rx;exact SeqAt.EqAt.none_int b t
  |str b=>obtain ⟨t,rfl⟩:=rx;exact SeqAt.EqAt.none_str b t
  |_=>exact absurd (show false=true from fx) eb1
 |bl a=>
  cases ry
  cases x with
  |non=>cases rx;exact SeqAt.EqAt.bool_none a
  |bl b=>cases rx;exact SeqAt.EqAt.bool_bool a b
  |int b=>obtain ⟨t,rfl⟩:=rx;exact SeqAt.EqAt.bool_int a b t
  |str b=>obtain ⟨t,rfl⟩:=rx;exact SeqAt.EqAt.bool_str a b t
  |_=>exact absurd (show false=true from fx) eb1
 |int a=>
  obtain ⟨t',rfl⟩:=ry
  cases x with
  |non=>cases rx;exact SeqAt.EqAt.int_none a t'
  |bl b=>cases rx;exact SeqAt.EqAt.int_bool a t' b
  |int b=>obtain ⟨t,rfl⟩:=rx;exact SeqAt.EqAt.int_int a t' b t
  |str b=>obtain ⟨t,rfl⟩:=rx;exact SeqAt.EqAt.int_str a t' b t
  |_=>exact absurd (show false=true from fx) eb1
 |str a=>
  obtain ⟨t',rfl⟩:=ry
  cases x with
  |non=>cases rx;exact SeqAt.EqAt.str_none a t'
  |bl b=>cases rx;exact SeqAt.EqAt.str_bool a t' b
  |int b=>obtain ⟨t,rfl⟩:=rx;exact SeqAt.EqAt.str_int a t' b t
  |str b=>obtain ⟨t,rfl⟩:=rx;exact SeqAt.EqAt.str_str a t' b t
  |_=>exact absurd (show false=true from fx) eb1
 |_=>exact absurd (show false=true from fy) eb1
def eqU (x:V)(u:Value):Bool:=match u with
 | .none=>Z9 .non x
 | .bool b=>Z9 (.bl b) x
 | .int i _=>Z9 (.int i) x
 | .str z _=>Z9 (.str z) x
 |_=>false
theorem bg8 {x y:V}{u:Value}(r:o5 y u)(f:O9 y=true):eqU x u=Z9 y x:=by
 cases y with
 |non=>cases r;rfl
 |bl b=>cases r;rfl
 |int i=>obtain ⟨t,rfl⟩:=r;rfl
 |str z=>obtain ⟨t,rfl⟩:=r;rfl
 |_=>exact absurd (show false=true from f) eb1
theorem bl0 {x:V}:∀{xs:List V} {us:List Value},m7 xs us->xs.all O9=true->us.any (eqU x)=xs.any fun y=>Z9 y x
 |_,_,.nil,_=>rfl
 |y::xs,u::us,.cons r t,f=>by
  rw[es4,ef1] at f;rw[eo4,eo4,bg8 r f.1,bl0 t f.2]
theorem ah1 {A:Around}{s:Shared}{x:V}{v:Value}(rx:o5 x v)(fx:O9 x=true):∀{xs:List V} {us:List Value},m7 xs us->xs.all O9=true->∀u∈us,SeqAt.EqAt A s u v (eqU x u)
 |_,_,.nil,_=>fun u hu=>by cases hu
 |y::xs,u::us,.cons r t,f=>fun u' hu=>by
  rw[es4,ef1] at f
  rcases ea8.mp hu with rfl|hu
  · rw[bg8 r f.1];exact cn4 r rx f.1 fx
  · exact ah1 rx fx t f.2 u' hu
def inV (x:V)(xs:List V):Bool:=xs.any fun y=>Z9 y x
def rIn (K:PySem.W.Frag)(neg:Bool):R2:=fun x y H Q=>∃p xs,y= .ref p/\(h8 K H p xs\/O3 K H p xs)/\O9 x=true/\xs.all O9=true/\Q (.bl (if neg then !inV x xs else inV x xs)) H
theorem bv0:P1 X (compareOp .NotIn) (rIn X.K true):=by
 intro pins s σ H x y v u Q I rx ry h;obtain ⟨p,xs,rfl,hq,fx,fs,q⟩:=h;cases ry
 rcases hq with hq|hq
 · obtain ⟨its,r,pl,hz⟩:=I.list hq;refine SeqAt.notIn_listAt (eqU x) pl.isList (fun w hw=>ah1 rx fx r fs w (by simpa using hw)) ⟨.bl _,H,I,rfl,?_⟩;rw[show its.toArray.any (eqU x)=its.any (eqU x) by simp,bl0 r fs];exact q
 · obtain ⟨its,r,pl,hz⟩:=I.tuple hq;refine SeqAt.notIn_tupleAt (eqU x) pl (fun w hw=>ah1 rx fx r fs w (by simpa using hw)) ⟨.bl _,H,I,rfl,?_⟩;rw[show its.toArray.any (eqU x)=its.any (eqU x) by simp,bl0 r fs];exact q
theorem bv3:X7 X (.builtin "len") (fun xs H Q=>∃p ys,xs=[.ref p]/\(h8 X.K H p ys\/O3 X.K H p ys)/\Q (.int ys.length) H):=by
 intro pins s σ H xs us Q I r h;obtain ⟨p,ys,rfl,hq,q⟩:=h;obtain ⟨u,rfl,rx⟩:=aq1 r;cases rx;have hn:=bu7
 rcases hq with hq|hq
 · obtain ⟨its,r',pl,hz⟩:=I.list hq;have hlen:=r'.length;exact Calls.call_len_list pl.isList (by simp only[ea6]<;>omega) ⟨.int ys.length,H,I.tok _,⟨s.toks+1,by rw[ea6,hlen]⟩,q⟩
 · obtain ⟨its,r',pl,hz⟩:=I.tuple hq;have hlen:=r'.length;exact len_tuple pl (by simp only[ea6]<;>omega) ⟨.int ys.length,H,I.tok _,⟨s.toks+1,by rw[ea6,hlen]⟩,q⟩
theorem bv4:X7 X (.type "list") (fun xs H Q=>∃p ys,xs=[.ref p]/\(h8 X.K H p ys\/O3 X.K H p ys)/\∀l,H l=none->Q (.ref l) (c9 H l (.lst ys))):=by
 intro pins s σ H xs us Q I r h;obtain ⟨p,ys,rfl,hq,q⟩:=h;obtain ⟨u,rfl,rx⟩:=aq1 r;cases rx
 have fin:∀(its:List Value),m7 ys its->ys.length<=sizeLine->∀(h':Heap) (c':Nat),(∀b o',s.heap.get? b=some o'->h'.get? b=some o')->
     h'.get? s.heap.objs.size=some {cls:= .type "list",dict:=none,data:= .seq its.toArray c',slots:= #[]}->EP X pins σ Q (.ref s.heap.objs.size) {s with heap:=h'}:=fun its r' hz h' c' kp e=>
   ⟨.ref s.heap.objs.size,_,I.laid (t':=s.toks) kp (dz3 _) (show B9 X.prog X.w _ h' _ (.lst ys) from ⟨hz,its,c',r',e⟩),rfl,q _ (I.hok.fresh (dz3 _))⟩
 rcases hq with hq|hq
 · obtain ⟨its,r',pl,hz⟩:=I.list hq;have hlen:=r'.length;obtain ⟨o,ho,hc,n,hd⟩:=pl.isList;exact call_list_seq p (.inl rfl) ho hc hd (fun h' c' kp e=>fin its r' hz h' c' kp e) (by simp only[ea6]<;>omega)
 · obtain ⟨its,r',pl,hz⟩:=I.tuple hq;have hlen:=r'.length;obtain ⟨o,ho,hc,n,hd⟩:=pl;exact call_list_seq p (.inr rfl) ho hc hd (fun h' c' kp e=>fin its r' hz h' c' kp e) (by simp only[ea6]<;>omega)
def tyV (K:PySem.W.Frag)(T:String)(x:V)(H:Hp):Prop:=match x with
 | .str _=>T="str"
 | .int _=>T="int"
 | .ref p=>(T="list"/\∃xs,h8 K H p xs)\/(T="tuple"/\∃o,K.lookup p=some o/\o.cls= .type "tuple"/\o.dict=none)\/
     (T="dict"/\((∃kvs,H p=some (.dK kvs))\/∃kvs,H p=some (.dT kvs)))\/(T="set"/\∃S n,H p=some (.set S n))
 |_=>False
theorem cn5 {pins:List (Addr×Obj)}{σ:St}{H:Hp}{s:Shared}{T:String}{x:V}{v:Value}(I:i5 X pins σ H s)(r:o5 x v)(ty:tyV X.K T x H):
   s.TypeIs v T/\∀a,v= .ref a->∃ob,s.heap.get? a=some ob/\ob.dict=none:=by
 cases x with
 |str z=>
  obtain ⟨t,rfl⟩:=r;cases (show T="str" from ty);exact ⟨typeIs_str s z t,fun _ e=>nomatch e⟩
 |int i=>
  obtain ⟨t,rfl⟩:=r;cases (show T="int" from ty);exact ⟨typeIs_int s i t,fun _ e=>nomatch e⟩
 |ref p=>
  cases r
  rcases ty with ⟨rfl,xs,hq⟩|⟨rfl,o,hk,hc,hd⟩|⟨rfl,hk⟩|⟨rfl,S,n,hk⟩
  · obtain ⟨its,_,pl,_⟩:=I.list hq;refine ⟨pl.isList.typeIs,fun a e=> ?_⟩;cases e;obtain ⟨o,n,e,c,hd,_⟩:=pl;exact ⟨o,e,hd⟩
  · refine ⟨⟨o,I.kIn p o hk,hc⟩,fun a e=> ?_⟩;cases e;exact ⟨o,I.kIn _ o hk,hd⟩
  · have z:∃o,s.heap.get? p=some o/\o.ExactDict:=by
      rcases hk with ⟨kvs,hk⟩|⟨kvs,hk⟩
      · obtain ⟨_,_,_,_,o,_,_,e,ex,_⟩:=I.hok p _ hk;exact ⟨o,e,ex⟩
      · obtain ⟨_,_,_,_,o,_,_,e,ex,_⟩:=I.hok p _ hk;exact ⟨o,e,ex⟩
    obtain ⟨o,e,ex⟩:=z;refine ⟨⟨o,e,ex.1⟩,fun a e2=> ?_⟩;cases e2;exact ⟨o,e,ex.2.1⟩
  · obtain ⟨o,_,_,_,e,ex,_⟩:=I.hok p _ hk;refine ⟨⟨o,e,ex.1⟩,fun a e2=> ?_⟩;cases e2;exact ⟨o,e,ex.2.1⟩
 |_=>exact False.elim ty
def dj9 (K:PySem.W.Frag)(T:String)(r:V->List V->Hp->VK->Prop)(to:TE):TE:=fun σ H Q=>to σ H fun x H1=>tyV K T x H1/\r x [] H1 Q
def tBM (K:PySem.W.Frag)(T:String)(r:V->List V->Hp->VK->Prop)(to:TE)(t:TA):TE:=fun σ H Q=>to σ H fun x H1=>tyV K T x H1/\t σ H1 fun xs H2=>r x xs H2 Q
variable {o e:Expr} {es:List Expr} {to:TE} {t:TA} {name:Str} {apos cpos:Pos} {T id:String} {r:V->List V->Hp->VK->Prop}
theorem dk0 (pa:PlainAttrs T)(slot:Slot T name id)(hty:typeOf (.builtin id)=pure (.type "method_descriptor"))(hm:MtR X id r)(ho:PE X o to)
   (hbase:attributeBase o name X.env (eval o X.env)=eval o X.env:=by rfl) (hline:(apos.endLine==cpos.line)=true:=by rfl):PE X (.Call (.Attribute o name apos) [] [] cpos) (dj9 X.K T r to):=by
 intro pins s σ H Q I h;refine wpAny_Call_method0_late hbase hline (q0 (ho pins s σ H _ I h) fun v s1 ⟨x,H1,I1,r1,ty,q1⟩=> ?_);obtain ⟨h1,h2⟩:=cn5 I1 r1 ty;exact ⟨T,id,pa,slot,hty,h1,h2,Calls.callWith_builtin rfl (PySem.evalArgs_none (hm pins s1 σ H1 x [] v [] Q I1 r1 .nil q1))⟩
theorem aq2 (pa:PlainAttrs T)(slot:Slot T name id)(hty:typeOf (.builtin id)=pure (.type "method_descriptor"))(hm:MtR X id r)(ho:PE X o to)(ha:PA X (e::es) t)
   (hbase:attributeBase o name X.env (eval o X.env)=eval o X.env:=by rfl)
   (hfew:((backTo cpos (starEach (e::es) X.env)).all (fun x=> !x.1)&&(backToKw cpos (keywordEach [] X.env)).all (fun x=>x.1.isSome)
     &&decide ((e::es).length+([]:List Keyword).length+(if ([]:List Keyword).isEmpty then 0 else 1) < 30))=true:=by rfl)
   (hline:(apos.endLine==cpos.line)=true:=by rfl) (hs:starEach (e::es) X.env=(false,eval e X.env)::starEach es X.env:=by rfl) (hplain:(backTo cpos (starEach es X.env)).any (·.1)=false:=by rfl):
   PE X (.Call (.Attribute o name apos) (e::es) [] cpos) (tBM X.K T r to t):=by
 intro pins s σ H Q I h;refine wpAny_Call_method_late hbase hfew hline rfl (q0 (ho pins s σ H _ I h) fun v s1 ⟨x,H1,I1,r1,ty,q1⟩=> ?_);obtain ⟨h1,h2⟩:=cn5 I1 r1 ty;refine ⟨T,id,pa,slot,hty,h1,h2,?_⟩;have hA:=ha cpos pins s1 σ H1 _ I1 q1;rw[hs] at hA ⊢;refine Calls.callWith_builtin (by show (false||(backTo cpos (starEach es X.env)).any (·.1))=false;rw[hplain]<;>rfl) (Calls.evalArgs_plain ?_)
 exact q0 hA fun us s2 ⟨vs,H2,I2,r2,q2⟩=>hm pins s2 σ H2 x vs v us Q I2 r1 r2 q2
end
end L2
namespace L2
local macro_rules|`(tactic|omega)=>`(tactic|lia)
open PySem PySem.Spec PyProof.Rows
def MtM (X:Cx)(id:String)(r:V->List V->Hp->VK->Prop):Prop:=
 ∀(pins:List (Addr×Obj)) (s:Shared) (σ:St) (H:Hp) (x:V) (xs:List V) (v:Value) (us:List Value) (Q:VK),i5 X pins σ H s->o5 x v->m7 xs us->r x xs H Q->
  wpAny (model X.prog X.w) X.A (call (.builtin id) (v::us)) (EP X pins σ Q) X.xe s
theorem m7.one:∀{x:V} {us:List Value},m7 [x] us->∃u,us=[u]/\o5 x u
 |_,_,.cons r .nil=>⟨_,rfl,r⟩
theorem m7.zero:∀{us:List Value},m7 [] us->us=[]
 |_,.nil=>rfl
theorem m7.dropLast {xs:List V}{us:List Value}(h:m7 xs us):m7 xs.dropLast us.dropLast:=by
 induction h with
 |nil=>exact .nil
 |cons r t ih=>
  cases t with
  |nil=>exact .nil
  |cons q t'=>exact .cons r ih
theorem m7.eraseIdx:∀{xs:List V} {us:List Value} (i:Nat),m7 xs us->m7 (xs.eraseIdx i) (us.eraseIdx i)
 |_,_,_,.nil=> .nil
 |_,_,0,.cons _ t=>t
 |_,_,i+1,.cons r t=> .cons r (m7.eraseIdx i t)
theorem m7.reverse {xs:List V}{us:List Value}(h:m7 xs us):m7 xs.reverse us.reverse:=by
 induction h with
 |nil=>exact .nil
 |cons r t ih=>rw[List.reverse_cons,List.reverse_cons];exact m7.append ih (.cons r .nil)
theorem m7.rep {xs:List V}{us:List Value}(h:m7 xs us):∀k:Nat,m7 (ec3 k xs).flatten (ec3 k us).flatten
 |0=> .nil
 |k+1=>by
  rw[ej3,ej3,ee1,ee1];exact m7.append h (m7.rep h k)
theorem cj2 {α:Type}(l:List α):l.eraseIdx (l.length - 1)=l.dropLast:=by
 induction l with
 |nil=>rfl
 |cons a r ih=>
  cases r with
  |nil=>rfl
  |cons b r=>
   have e:(a::b::r).length - 1=((b::r).length - 1)+1:=by
     have h1:(a::b::r).length=r.length+2:=rfl;have h2:(b::r).length=r.length+1:=rfl;omega
   rw[e,List.eraseIdx_cons_succ,ih]
   all_goals rfl
theorem bo9 {α:Type}:∀(l:List α) (i:Nat),(l.eraseIdx i).length<=l.length
 |[],_=>dz3 _
 |_::_,0=>er6 _
 |_::r,i+1=>et4 (bo9 r i)
theorem bp0 (its:List Value):∀(k:Nat) (acc:List Value),
   List.foldl (fun x1 x2=>x1++x2) acc.toArray (ec3 k its.toArray)=(acc++(ec3 k its).flatten).toArray
 |0,acc=>by simp
 |k+1,acc=>by
  have e:acc.toArray++its.toArray=(acc++its).toArray:=by simp
  have e2:(acc++its)++(ec3 k its).flatten=acc++(ec3 (k+1) its).flatten:=by
    rw[ej3,ee1,eb3]
  rw[<-e2,<-bp0 its k (acc++its),<-e,ej3,List.foldl_cons]
section
variable {X:Cx} {pins:List (Addr×Obj)} {σ:St} {H:Hp} {s:Shared} {l b:Addr} {xs ys zs:List V}
theorem i5.lset {its its':List Value}{n:Nat}{f:Array Value->Array Value}{t':Nat}(I:i5 X pins σ H s)(hH:H l=some (.lst xs))
   (e:s.heap.get? l=some {cls:= .type "list",data:= .seq its.toArray n}) (hf:f its.toArray=its'.toArray) (hv:m7 ys its') (hz:ys.length<=sizeLine):
   i5 X pins σ (c9 H l (.lst ys)) {s with heap:=s.heap.update l (Obj.mapSeq f),toks:=t'}:=by
 have q:=PySem.IsL.update e f;rw[hf] at q;refine I.write (x:=l) (e:=l) (by rw[hH];exact trivial) (.inl rfl) (fun b' u hb hu=>(Heap.get?_update_other s.heap (Obj.mapSeq f) (Ne.symm hb)).trans hu) ⟨_,q⟩ ?_;exact ⟨hz,its',_,hv,q⟩
theorem i5.lnew {its:List Value}{t':Nat}(I:i5 X pins σ H s)(hv:m7 ys its)(hz:ys.length<=sizeLine):
   i5 X pins σ (c9 H s.heap.objs.size (.lst ys)) {s with heap:=s.heap.push {cls:= .type "list",data:= .seq its.toArray},toks:=t'}:=
 I.laid (fun _ _ q=>Heap.get?_push_of_some _ q) (dz3 _) ⟨hz,its,0,hv,Heap.get?_push_size _ rfl⟩
theorem i5.fresh (I:i5 X pins σ H s):H s.heap.objs.size=none:=I.hok.fresh (dz3 _)
theorem i5.lstM (I:i5 X pins σ H s)(hH:H l=some (.lst xs)):xs.length<=sizeLine/\∃(its:List Value) (n:Nat),m7 xs its/\xs.length=its.length/\s.heap.get? l=some {cls:= .type "list",data:= .seq its.toArray n}:=by
 obtain ⟨z,its,n,r,e⟩:=I.hok l _ hH;exact ⟨z,its,n,r,r.length,e⟩
theorem bv5 {n:Nat}(h:n<=sizeLine):Builtin.List.listTooLong n=false:=by
 unfold Builtin.List.listTooLong;exact decide_eq_false (by omega)
end
section
variable {X:Cx}
def ce4:V->List V->Hp->VK->Prop:=fun x vs H Q=>∃l xs y,x= .ref l/\vs=[y]/\H l=some (.lst xs)/\xs.length < sizeLine/\Q .non (c9 H l (.lst (xs++[y])))
theorem cn6:MtM X "list.append" ce4:=by
 intro pins s σ H x vs v us Q I rx rv h;obtain ⟨l,xs,y,rfl,rfl,hH,hz,q⟩:=h;cases rx;obtain ⟨u,rfl,ru⟩:=rv.one;obtain ⟨z,its,n,r,hl,e⟩:=I.lstM hH;refine call_meets F.slot_list_append ⟨_,e,rfl⟩ F.entry_list_append (F.args_list_append_2 _ _) (PySem.list_append l its.toArray n u (by rw[ea6];omega)) ⟨e,?_⟩;refine ⟨.non,_,I.lset (its':=its++[u]) hH e (by simp) (r.append (.cons ru .nil)) ?_,rfl,q⟩;rw[dz9,ep6];omega
def ce5:V->List V->Hp->VK->Prop:=fun x vs H Q=>∃l b xs zs,x= .ref l/\vs=[.ref b]/\H l=some (.lst xs)/\H b=some (.lst zs)/\xs.length+zs.length<=sizeLine/\Q .non (c9 H l (.lst (xs++zs)))
theorem cn7:MtM X "list.extend" ce5:=by
 intro pins s σ H x vs v us Q I rx rv h;obtain ⟨l,b,xs,zs,rfl,rfl,hH,hB,hz,q⟩:=h;cases rx;obtain ⟨u,rfl,ru⟩:=rv.one;cases ru;obtain ⟨z,its,n,r,hl,e⟩:=I.lstM hH;obtain ⟨z2,its2,n2,r2,hl2,e2⟩:=I.lstM hB
 have hsz:its.toArray.size+its2.toArray.size<=sizeLine:=by rw[ea6,ea6];omega
 have hlong:¬(!its.toArray.isEmpty&&Builtin.List.listTooLong (its.toArray.size+its2.toArray.size))=true:=by
   rw[bv5 hsz,Bool.and_false];exact eb1
 refine call_meets F.slot_list_extend ⟨_,e,rfl⟩ F.entry_list_extend (F.args_list_extend_2 _ _)
   (AutoSeq1.list_extend_list_list_0 l its.toArray n b its2.toArray n2 hlong (by rw[ea6];omega) (by omega)) ⟨e,e2,?_⟩
 refine ⟨.non,_,I.lset (its':=its++its2) hH e (by simp) (r.append r2) ?_,rfl,q⟩;rw[dz9];omega
def dk1:V->List V->Hp->VK->Prop:=fun x vs H Q=>∃l xs y,x= .ref l/\vs=[]/\H l=some (.lst xs)/\xs[xs.length - 1]? =some y/\Q y (c9 H l (.lst xs.dropLast))
theorem dk2:MtM X "list.pop" dk1:=by
 intro pins s σ H x vs v us Q I rx rv h;obtain ⟨l,xs,y,rfl,rfl,hH,hy,q⟩:=h;cases rx;have hus:=rv.zero;subst hus;obtain ⟨z,its,n,r,hl,e⟩:=I.lstM hH;obtain ⟨u,hu,ru⟩:=r.get hy
 have hy':its.toArray[its.toArray.size - 1]? =some u:=by
   show its.toArray[its.length - 1]? =some u;rw[<-ee8,<-hl];exact hu
 refine call_meets F.slot_list_pop ⟨_,e,rfl⟩ F.entry_list_pop (F.args_list_pop_1 _) (MeetsSeq.list_pop_last l its.toArray n u hy' (by rw[ea6];omega)) ⟨e,?_⟩;refine ⟨y,_,I.lset (its':=its.dropLast) hH e ?_ r.dropLast ?_,ru,q⟩
 · show its.toArray.eraseIdxIfInBounds (its.toArray.size - 1)=its.dropLast.toArray;rw[ea6,ep7,cj2]
 · rw[eo1];omega
def cn8:V->List V->Hp->VK->Prop:=fun x vs H Q=>∃l xs i k y,x= .ref l/\vs=[.int i]/\H l=some (.lst xs)/\ -(2^63)<=i/\i < 2^63/\seqIndex? i xs.length=some k/\xs[k]? =some y/\Q y (c9 H l (.lst (xs.eraseIdx k)))
theorem cv6:MtM X "list.pop" cn8:=by
 intro pins s σ H x vs v us Q I rx rv h;obtain ⟨l,xs,i,k,y,rfl,rfl,hH,h1,h2,hk,hy,q⟩:=h;cases rx;obtain ⟨u,rfl,ru⟩:=rv.one;obtain ⟨t,rfl⟩:=ru;obtain ⟨z,its,n,r,hl,e⟩:=I.lstM hH;obtain ⟨w,hw,rw'⟩:=r.get hy
 refine call_meets F.slot_list_pop ⟨_,e,rfl⟩ F.entry_list_pop (F.args_list_pop_2 _ _)
   (MeetsSeq.list_pop_at l its.toArray n i t k w (fitsIndex_both h1 h2) (by rw[ea6,<-hl];exact hk) (by rw[<-ee8];exact hw) (by rw[ea6];omega)) ⟨e,?_⟩
 refine ⟨y,_,I.lset (its':=its.eraseIdx k) hH e ?_ (r.eraseIdx k) ?_,rw',q⟩
 · show its.toArray.eraseIdxIfInBounds k=(its.eraseIdx k).toArray;rw[ep7]
 · have:=bo9 xs k;omega
def dw3:R2:=fun x y H Q=>∃l b xs zs,x= .ref l/\y= .ref b/\H l=some (.lst xs)/\H b=some (.lst zs)/\xs.length+zs.length<=sizeLine/\∀p,H p=none->Q (.ref p) (c9 H p (.lst (xs++zs)))
theorem an3:P1 X (binaryOp .Add) dw3:=by
 intro pins s σ H x y v u Q I rx ry h;obtain ⟨l,b,xs,zs,rfl,rfl,hH,hB,hz,q⟩:=h;cases rx;cases ry;obtain ⟨z,its,n,r,hl,e⟩:=I.lstM hH;obtain ⟨z2,its2,n2,r2,hl2,e2⟩:=I.lstM hB;refine PySem.P.add_list e e2 ?_ (by rw[ea6,ea6];omega)
 have ea:its.toArray++its2.toArray=(its++its2).toArray:=by simp
 rw[ea];exact ⟨.ref _,_,I.lnew (t':=s.toks) (r.append r2) (by rw[dz9];omega),rfl,q _ I.fresh⟩
def dw4:R2:=fun x y H Q=>∃l k xs,x= .ref l/\y= .int k/\H l=some (.lst xs)/\ -(2^63)<=k/\k < 2^63/\xs.length*k.toNat<=sizeLine/\
 ∀p,H p=none->Q (.ref p) (c9 H p (.lst (ec3 k.toNat xs).flatten))
theorem dc6 {α:Type}(xs:List α)(k:Nat):(ec3 k xs).flatten.length=k*xs.length:=by
 induction k with
 |zero=>simp
 |succ k ih=>rw[ej3,ee1,dz9,ih,ej9,eh2]
theorem bg9:P1 X (binaryOp .Mult) dw4:=by
 intro pins s σ H x y v u Q I rx ry h;obtain ⟨l,k,xs,rfl,rfl,hH,h1,h2,hz,q⟩:=h;cases rx;obtain ⟨t,rfl⟩:=ry;obtain ⟨z,its,n,r,hl,e⟩:=I.lstM hH
 have hlen:its.toArray.size*k.toNat<=sizeLine:=by rw[ea6,<-hl];exact hz
 have hcap:¬its.toArray.size*k.toNat > (2^63 - 1)/8:=by
   have:(sizeLine:Nat)<=(2^63 - 1)/8:=by decide
   omega
 have hfit:¬(!Builtin.List.listFitsIndex k)=true:=by
   rw[fitsIndex_both h1 h2];exact eb1
 have hlong:¬Builtin.List.listTooLong (its.toArray.size*k.toNat)=true:=by
   rw[bv5 hlen];exact eb1
 have hnew:List.foldl (fun x1 x2=>x1++x2) #[] (ec3 (if its.toArray.isEmpty=true then 0 else k.toNat) its.toArray)=(ec3 k.toNat its).flatten.toArray:=by
   have f0:∀m:Nat,List.foldl (fun x1 x2=>x1++x2) #[] (ec3 m its.toArray)=(ec3 m its).flatten.toArray:=fun m=>by
     have:=bp0 its m [];rw[List.nil_append] at this;exact this
   rw[f0]
   cases its with
   |nil=>simp
   |cons a r'=>rw[if_neg (by simp)]
 refine wpAny_binaryOp_repeat_ref (T:="list") (U:="int") (by decide) ⟨_,e,rfl⟩ (fun s'=>typeIs_int s' k t) noFill_list_mul F.fills_int_mul F.slot_int_rmul repeat_list F.slot_int_index.lookup
   (call_meets F.slot_int_rmul (typeIs_int s k t) F.entry_int_rmul (F.args_int_rmul_2 _ _) (int___rmul___int_list k t l its.toArray n)
     ⟨e,rfl,⟨_,e,rfl⟩,call_meets F.slot_list_mul ⟨_,e,rfl⟩ F.entry_list_mul (F.args_list_mul_2 _ _) (AutoListH.list___mul___list_int_3 l its.toArray n k t hfit hcap hlong) ⟨e,?_⟩⟩)
 rw[hnew];exact ⟨.ref _,_,I.lnew (t':=s.toks) (r.rep k.toNat) (by rw[dc6,ef5];exact hz),rfl,q _ I.fresh⟩
end
end L2
namespace L2
local macro_rules|`(tactic|omega)=>`(tactic|lia)
open PySem PySem.Spec PyProof.Rows
section
variable {κ:Type} [DecidableEq κ]
def C9 (kvs:List (κ×V))(k:κ):Option V:=(kvs.find? fun kv=>decide (kv.1=k)).map (·.2)
def Q7 (kvs:List (κ×V))(k:κ)(v:V):List (κ×V):=
 if (kvs.any fun kv=>decide (kv.1=k))=true then kvs.map (fun kv=>if kv.1=k then (kv.1,v) else kv) else kvs++[(k,v)]
theorem K6 {p:κ×V}{r:List (κ×V)}{k:κ}(e:p.1=k):C9 (p::r) k=some p.2:=by simp [C9,em8,e]
theorem K2 {p:κ×V}{r:List (κ×V)}{k:κ}(e:¬p.1=k):C9 (p::r) k=C9 r k:=by simp [C9,em8,e]
theorem ab5 (k:κ):∀kvs:List (κ×V),(kvs.any fun kv=>decide (kv.1=k))=(C9 kvs k).isSome
 |[]=>rfl
 |p::r=>by
  rw[eo4]
  by_cases e:p.1=k
  · simp only[K6 e,decide_eq_true e,Bool.true_or,Option.isSome_some]
  · rw[K2 e,decide_eq_false e,Bool.false_or];exact ab5 k r
theorem bv6 (k j:κ)(y:V):∀kvs:List (κ×V),C9 (kvs.map fun kv=>if kv.1=k then (kv.1,y) else kv) j=(C9 kvs j).map fun x=>if j=k then y else x
 |[]=>rfl
 |p::r=>by
  have ih:=bv6 k j y r;rw[ed3]
  by_cases h:p.1=k
  · rw[if_pos h]
    by_cases e:p.1=j
    · rw[K6 (p:=(p.1,y)) e,K6 e,em9,if_pos (e.symm.trans h)]
    · rw[K2 (p:=(p.1,y)) e,K2 e,ih]
  · rw[if_neg h]
    by_cases e:p.1=j
    · rw[K6 (p:=p) e,K6 e,em9,if_neg (fun z=>h (e.trans z))]
    · rw[K2 (p:=p) e,K2 e,ih]
theorem bp1 (k j:κ)(y:V):∀kvs:List (κ×V),C9 kvs k=none->C9 (kvs++[(k,y)]) j=if j=k then some y else C9 kvs j
 |[],_=>by
  by_cases e:k=j
  · rw[if_pos e.symm];exact K6 (p:=(k,y)) e
  · rw[if_neg (fun z=>e z.symm)];exact K2 (p:=(k,y)) e
 |p::r,hn=>by
  rw[List.cons_append]
  have hk:¬p.1=k:=fun z=>by rw[K6 z] at hn;cases hn
  rw[K2 hk] at hn;have ih:=bp1 k j y r hn
  by_cases e:p.1=j
  · rw[K6 e,K6 e,if_neg (fun z=>hk (e.trans z))]
  · rw[K2 e,K2 e,ih]
theorem bv7 (kvs:List (κ×V))(k j:κ)(y:V):C9 (Q7 kvs k y) j=if j=k then some y else C9 kvs j:=by
 unfold Q7
 by_cases a:(kvs.any fun kv=>decide (kv.1=k))=true
 · rw[if_pos a,bv6];rw[ab5] at a
   by_cases e:j=k
   · obtain ⟨x,hx⟩:=ep0.mp a;rw[if_pos e,e,hx,em9,if_pos rfl]
   · rw[if_neg e]
     cases C9 kvs j with
     |none=>rfl
     |some x=>rw[em9,if_neg e]
 · rw[if_neg a];refine bp1 k j y kvs ?_;rw[ab5] at a
   cases q:C9 kvs k with
   |none=>rfl
   |some x=>rw[q] at a;exact (a rfl).elim
theorem al1 (kvs:List (κ×V))(k:κ)(v:V):(Q7 kvs k v).length<=kvs.length+1:=by
 unfold Q7
 split
 · rw[dz0];omega
 · rw[dz9,ee9,eq3];omega
theorem aq3 {kvs:List (κ×V)}{k:κ}(v:V)(h:C9 kvs k=none):Q7 kvs k v=kvs++[(k,v)]:=by
 unfold Q7;rw[ab5,h];exact if_neg (by decide)
theorem aa9.isSome_eq {o:Option V}{u:Option Value}(r:aa9 o u):o.isSome=u.isSome:=by
 cases o with
 |none=>cases u with
  |none=>rfl
  |some _=>exact (show False from r).elim
 |some _=>cases u with
  |none=>exact (show False from r).elim
  |some _=>rfl
theorem aa9.getD {o:Option V}{u:Option Value}{d:V}{d':Value}(r:aa9 o u)(rd:o5 d d'):o5 (o.getD d) (u.getD d'):=by
 cases o with
 |none=>cases u with
  |none=>exact rd
  |some _=>exact (show False from r).elim
 |some _=>cases u with
  |none=>exact (show False from r).elim
  |some _=>exact r
theorem KV.val {kvs:List (κ×V)}{vs:List (κ×Value)}(r:KV kvs vs)(k:κ):aa9 (C9 kvs k) (valueAt vs k):=by
 unfold KV at r
 induction r with
 |nil=>exact True.intro
 |@cons p q ps qs h t ih=>
  obtain ⟨h1,h2⟩:=h
  by_cases e:p.1=k
  · have e':q.1=k:=h1.symm.trans e
    have b:valueAt (q::qs) k=some q.2:=by simp [valueAt,em8,e']
    rw[K6 e,b];exact h2
  · have e':¬q.1=k:=fun z=>e (h1.trans z)
    have b:valueAt (q::qs) k=valueAt qs k:=by simp [valueAt,em8,e']
    rw[K2 e,b];exact ih
theorem KV.any {kvs:List (κ×V)}{vs:List (κ×Value)}(r:KV kvs vs)(k:κ):(kvs.any fun kv=>decide (kv.1=k))=vs.any fun kv=>decide (kv.1=k):=by
 unfold KV at r
 induction r with
 |nil=>rfl
 |cons h t ih=>rw[eo4,eo4,ih,h.1]
theorem KV.repl {kvs:List (κ×V)}{vs:List (κ×Value)}(r:KV kvs vs)(k:κ){y:V}{u:Value}(ry:o5 y u):
   KV (kvs.map fun kv=>if kv.1=k then (kv.1,y) else kv) (vs.map fun kv=>if kv.1=k then (kv.1,u) else kv):=by
 unfold KV at r ⊢
 induction r with
 |nil=>exact .nil
 |@cons p q ps qs h t ih=>
  rw[ed3,ed3];refine .cons ?_ ih;obtain ⟨h1,h2⟩:=h
  by_cases e:p.1=k
  · rw[if_pos e,if_pos (h1.symm.trans e)];exact ⟨h1,ry⟩
  · rw[if_neg e,if_neg (fun z=>e (h1.trans z))];exact ⟨h1,h2⟩
theorem KV.put {kvs:List (κ×V)}{vs:List (κ×Value)}(r:KV kvs vs)(k:κ){y:V}{u:Value}(ry:o5 y u):KV (Q7 kvs k y) (stored vs k u):=by
 unfold Q7 stored;rw[r.any k]
 by_cases e:(vs.any fun kv=>decide (kv.1=k))=true
 · rw[if_pos e,if_pos e];exact r.repl k ry
 · rw[if_neg e,if_neg e];exact Paired.snoc r ⟨rfl,ry⟩
theorem KV.length {kvs:List (κ×V)}{vs:List (κ×Value)}(r:KV kvs vs):kvs.length=vs.length:=Paired.length r
end
theorem aq4 {P:Program}{w:World}{k:o9}{u:Value}(r:o5 (kV k) u):(E6 P w).is k u=true:=by
 cases k with
 |inl i=>obtain ⟨t,e⟩:=(show ∃t,u=Value.int i t from r);subst e;exact bc2 P w i t
 |inr x=>obtain ⟨t,e⟩:=(show ∃t,u=Value.str x t from r);subst e;exact bc3 P w x t
theorem bp2 {P:Program}{w:World}:∀{ks:List o9} {us:List Value},m7 (ks.map kV) us->ItemsAre (E6 P w) ks us
 |[],_,r=>by rw[em6] at r;cases r;exact .nil
 |k::ks,_,r=>by
  rw[ed3] at r
  cases r with
  |cons h t=>exact .cons (aq4 h) (bp2 t)
abbrev KT (H:Hp):List (List o9×V)->List (List o9×Addr×Value)->Prop:=Paired fun p q=>p.1=q.1/\H q.2.1=some (.tup (p.1.map kV))/\o5 p.2 q.2.2
theorem KT.val {H:Hp}{kvs:List (List o9×V)}{xs:List (List o9×Addr×Value)}(r:KT H kvs xs)(k:List o9):aa9 (C9 kvs k) ((atKey xs k).map (·.2)):=by
 induction r with
 |nil=>exact True.intro
 |@cons p q ps qs h t ih=>
  obtain ⟨h1,_,h2⟩:=h
  by_cases e:p.1=k
  · have e':q.1=k:=h1.symm.trans e
    have b:atKey (q::qs) k=some q.2:=by simp [atKey,em8,e']
    rw[K6 e,b];exact h2
  · have e':¬q.1=k:=fun z=>e (h1.trans z)
    have b:atKey (q::qs) k=atKey qs k:=by simp [atKey,em8,e']
    rw[K2 e,b];exact ih
theorem KT.repl {H:Hp}{kvs:List (List o9×V)}{xs:List (List o9×Addr×Value)}(r:KT H kvs xs)(k:List o9){y:V}{u:Value}(ry:o5 y u):
   KT H (kvs.map fun kv=>if kv.1=k then (kv.1,y) else kv) (xs.map (putAt k u)):=by
 induction r with
 |nil=>exact .nil
 |@cons p q ps qs h t ih=>
  rw[ed3,ed3];refine .cons ?_ ih;obtain ⟨h1,h2,h3⟩:=h;unfold putAt
  by_cases e:p.1=k
  · rw[if_pos e,if_pos (h1.symm.trans e)];exact ⟨h1,h2,ry⟩
  · rw[if_neg e,if_neg (fun z=>e (h1.trans z))];exact ⟨h1,h2,h3⟩
theorem KT.put {H:Hp}{kvs:List (List o9×V)}{xs:List (List o9×Addr×Value)}(r:KT H kvs xs)(k:List o9){b:Addr}{y:V}{u:Value}(hb:H b=some (.tup (k.map kV)))(ry:o5 y u):
   KT H (Q7 kvs k y) (storedH xs k b u):=by
 have e:(kvs.any fun kv=>decide (kv.1=k))=(atKey xs k).isSome:=by
   rw[ab5,(r.val k).isSome_eq,es5]
 unfold Q7 storedH;rw[e]
 by_cases q:(atKey xs k).isSome=true
 · rw[if_pos q,if_pos q];exact r.repl k ry
 · rw[if_neg q,if_neg q];exact Paired.snoc r ⟨rfl,hb,ry⟩
theorem KT.keeps {H H':Hp}{kvs:List (List o9×V)}{xs:List (List o9×Addr×Value)}(r:KT H kvs xs)(ht:∀b ys,H b=some (.tup ys)->H' b=some (.tup ys)):KT H' kvs xs:=
 Paired.mapP r fun _ _ z=>⟨z.1,ht _ _ z.2.1,z.2.2⟩
section
variable {P:Program} {w:World} {H:Hp} {h:Heap} {a:Addr}
theorem da9 {u:HO}(ok:K5 P w H h)(e:Rd H a u):B9 P w H h a u:=e.ok ok
theorem aq5 {kvs:List (o9×V)}(ok:K5 P w H h)(e:Rd H a (.dK kvs)):kvs.length<=sizeLine/\(a==sysModules)=false/\∃vs,KV kvs vs/\h.DictOf (E6 P w) a vs:=
 show B9 P w H h a (.dK kvs) from da9 ok e
theorem db0 {kvs:List (o9×V)}(ok:K5 P w H h)(e:H a=some (.dK kvs)):kvs.length<=sizeLine/\(a==sysModules)=false/\∃vs,KV kvs vs/\h.DictOf (E6 P w) a vs:=aq5 ok (.inl e)
theorem an4 {ks:List o9}(ok:K5 P w H h)(e:H a=some (.tup (ks.map kV))):(tupleKind (E6 P w)).is h ks a:=by
 obtain ⟨_,its,r,o,h1,h2,n,h3⟩:=(show B9 P w H h a (.tup (ks.map kV)) from ok a _ e);exact ⟨o,its.toArray,n,h1,h2,h3,by simpa using bp2 r⟩
theorem aq6 {kvs:List (List o9×V)}(ok:K5 P w H h)(e:Rd H a (.dT kvs)):kvs.length<=sizeLine/\(a==sysModules)=false/\
   ∃xs,KT H kvs xs/\h.DictOfH (tupleKind (E6 P w)) a xs:=by
 obtain ⟨z,y,xs,r,o,es,ep,h1,h2,h3,h4,h5⟩:=(show B9 P w H h a (.dT kvs) from da9 ok e);refine ⟨z,y,xs,r,o,es,ep,h1,h2,h3,h4,fun x hx=> ?_,h5⟩
 have all:∀{l:List (List o9×V)} {m:List (List o9×Addr×Value)},KT H l m->∀x∈m,(tupleKind (E6 P w)).is h x.1 x.2.1:=by
   intro l m q
   induction q with
   |nil=>intro x hx;exact nomatch hx
   |@cons p q ps qs hq t ih=>
    intro x hx
    rcases ea8.mp hx with e|hx
    · subst e;exact an4 ok (by rw[<-hq.1];exact hq.2.1)
    · exact ih x hx
 exact all r x hx
theorem dq2 {kvs:List (List o9×V)}(ok:K5 P w H h)(e:H a=some (.dT kvs)):kvs.length<=sizeLine/\(a==sysModules)=false/\
 ∃xs,KT H kvs xs/\h.DictOfH (tupleKind (E6 P w)) a xs:=aq6 ok (.inl e)
end
def W9 (H:Hp)(a:Addr)(y:V)(r:Option V):Prop:=
 (∃kvs k,Rd H a (.dK kvs)/\y=kV k/\r=C9 kvs k)\/∃kvs k b,Rd H a (.dT kvs)/\y= .ref b/\H b=some (.tup (k.map kV))/\r=C9 kvs k
def aq7 (H:Hp)(a:Addr)(y v:V)(H':Hp):Prop:=
 (∃kvs k,H a=some (.dK kvs)/\y=kV k/\kvs.length < sizeLine/\H'=c9 H a (.dK (Q7 kvs k v)))\/
 ∃kvs k b,H a=some (.dT kvs)/\y= .ref b/\H b=some (.tup (k.map kV))/\kvs.length < sizeLine/\H'=c9 H a (.dT (Q7 kvs k v))
theorem W9.k {H:Hp}{a:Addr}{kvs:List (o9×V)}{k:o9}(e:H a=some (.dK kvs)):W9 H a (kV k) (C9 kvs k):= .inl ⟨kvs,k,.inl e,rfl,rfl⟩
theorem aq7.k {H:Hp}{a:Addr}{kvs:List (o9×V)}{k:o9}{v:V}(e:H a=some (.dK kvs))(hl:kvs.length < sizeLine):aq7 H a (kV k) v (c9 H a (.dK (Q7 kvs k v))):= .inl ⟨kvs,k,e,rfl,hl,rfl⟩
section
variable {X:Cx} {pins:List (Addr×Obj)} {σ:St} {H:Hp} {s:Shared} {a:Addr} {y v:V} {u r:Value} {o:Option V} {A:Around} {E:Value->Shared->Prop}
theorem i5.big (I:i5 X pins σ H s):sysModules < s.heap.objs.size:=by
 have h:mainGlobals < s.heap.objs.size:=(I.mod.glob.keeps I.bk).lt;exact Nat.lt_trans (by decide) h
theorem cn9 {Q:Value->Shared->Prop}(hu:A.units+1 < cLine)(I:i5 X pins σ H s)(g:W9 H a y (some v))(ry:o5 y u)(h:∀w' s',i5 X pins σ H s'->o5 v w'->Q w' s'):
   wpAny (model X.prog X.w) A (getItem (.ref a) u) Q E s:=by
 rcases g with ⟨kvs,k,e,ey,l⟩|⟨kvs,k,b,e,ey,eb,l⟩
 · subst ey;obtain ⟨z,hd,vs,rel,dd⟩:=aq5 I.hok e;obtain ⟨w',hw,rw'⟩:=aa9.some_of (v:=v) (o:=valueAt vs k) (by rw[l];exact rel.val k);exact wpAny_getItem_of (aq4 ry) dd.mapOf hw (h w' _ (I.tok _) rw')
 · subst ey;cases (show u=Value.ref b from ry);obtain ⟨z,hd,xs,rel,dd⟩:=aq6 I.hok e;obtain ⟨w',hw,rw'⟩:=aa9.some_of (v:=v) (o:=(atKey xs k).map (·.2)) (by rw[l];exact rel.val k);obtain ⟨p,hp,hp2⟩:=Option.map_eq_some_iff.mp hw;refine wpAny_getItem_heap (tupleKind_room_in1 hu) (an4 I.hok eb) dd hp ?_;rw[hp2];exact h w' _ (I.tok _) rw'
theorem dw5 {Q:Value->Shared->Prop}(hu:A.units+1 < cLine)(I:i5 X pins σ H s)(g:W9 H a y o)(ry:o5 y u)(h:∀s',i5 X pins σ H s'->Q (.bool o.isSome) s'):
   wpAny (model X.prog X.w) A (compareOp .In u (.ref a)) Q E s:=by
 rcases g with ⟨kvs,k,e,ey,l⟩|⟨kvs,k,b,e,ey,eb,l⟩
 · subst ey;obtain ⟨z,hd,vs,rel,dd⟩:=aq5 I.hok e;refine wpAny_in_of (aq4 ry) hd dd.mapOf ?_;rw[<-(rel.val k).isSome_eq,<-l];exact h _ (I.tok _)
 · subst ey;cases (show u=Value.ref b from ry);obtain ⟨z,hd,xs,rel,dd⟩:=aq6 I.hok e;refine wpAny_in_heap (tupleKind_room_in1 hu) (an4 I.hok eb) hd dd ?_;have q:=(rel.val k).isSome_eq;rw[es5] at q;rw[<-q,<-l];exact h _ (I.tok _)
theorem dc7 {Q:Value->Shared->Prop}(hu:A.units+1 < cLine)(I:i5 X pins σ H s)(g:W9 H a y o)(ry:o5 y u)(h:∀s',i5 X pins σ H s'->Q (.bool (!o.isSome)) s'):
   wpAny (model X.prog X.w) A (compareOp .NotIn u (.ref a)) Q E s:=by
 rcases g with ⟨kvs,k,e,ey,l⟩|⟨kvs,k,b,e,ey,eb,l⟩
 · subst ey;obtain ⟨z,hd,vs,rel,dd⟩:=aq5 I.hok e;refine wpAny_notIn_of (aq4 ry) hd dd.mapOf ?_;rw[<-(rel.val k).isSome_eq,<-l];exact h _ (I.tok _)
 · subst ey;cases (show u=Value.ref b from ry);obtain ⟨z,hd,xs,rel,dd⟩:=aq6 I.hok e;refine wpAny_notIn_heap (tupleKind_room_in1 hu) (an4 I.hok eb) hd dd ?_;have q:=(rel.val k).isSome_eq;rw[es5] at q;rw[<-q,<-l];exact h _ (I.tok _)
theorem ba1 {h':Heap}{t':Nat}{ob:HO}(I:i5 X pins σ H s)(mu:Mut (H a))(hs:Heap.SameBut a s.heap h')(he:∃q,h'.get? a=some q)(new:B9 X.prog X.w (c9 H a ob) h' a ob):
   i5 X pins σ (c9 H a ob) {s with heap:=h',toks:=t'}:=
 I.write (x:=a) (e:=a) mu (.inl rfl) (fun b q hb z=>(hs.2 b hb).trans z) he new
theorem co0 {P:Program}{w:World}{H':Hp}{h':Heap}{kvs:List (o9×V)}{vs:List (o9×Value)}(z:kvs.length<=sizeLine)(hd:(a==sysModules)=false)(rel:KV kvs vs)(dd:h'.DictOf (E6 P w) a vs):
 B9 P w H' h' a (.dK kvs):=⟨z,hd,vs,rel,dd⟩
theorem co1 {H':Hp}{Q:Unit->Shared->Prop}(hu:A.units+1 < cLine)(I:i5 X pins σ H s)(g:aq7 H a y v H')(ry:o5 y u)(rv:o5 v r)(h:∀s',i5 X pins σ H' s'->Q () s'):
   wpAny (model X.prog X.w) A (setItem (.ref a) u r) Q E s:=by
 rcases g with ⟨kvs,k,e,ey,l,eH⟩|⟨kvs,k,b,e,ey,eb,l,eH⟩
 · subst ey eH;obtain ⟨z,hd,vs,rel,dd⟩:=db0 I.hok e
   have hz:vs.length<=sizeLine:=by rw[<-rel.length];exact z
   have hl:(Q7 kvs k v).length<=sizeLine:=by have:=al1 kvs k v;omega
   refine wpAny_setItem_pairs (hsz:=hz) (aq4 ry) dd fun h' dd' hs=>h _ ?_
   have he:∃q,h'.get? a=some q:=let ⟨q,_,_,hq,_⟩:=dd';⟨q,hq⟩;exact ba1 I (by rw[e];exact True.intro) hs he (co0 hl hd (rel.put k rv) dd')
 · subst ey eH;cases (show u=Value.ref b from ry);obtain ⟨z,hd,xs,rel,dd⟩:=dq2 I.hok e
   have hz:xs.length<=sizeLine:=by rw[<-Paired.length rel];exact z
   have hl:(Q7 kvs k v).length<=sizeLine:=by have:=al1 kvs k v;omega
   refine wpAny_setItem_heap (hsz:=hz) (tupleKind_room_in1 hu) (an4 I.hok eb) dd fun h' dd' hs=>h _ ?_
   obtain ⟨q,es,ep,hq,h2,h3,h4,_,h5⟩:=dd';refine ba1 I (by rw[e];exact True.intro) hs ⟨q,hq⟩ ⟨hl,hd,_,(rel.put k eb rv).keeps fun c ys ec=> ?_,q,es,ep,hq,h2,h3,h4,h5⟩;rw[g7 (ci3 ec e (fun z=>nomatch z))];exact ec
end
def dk3 (i:Expr):Prop:=∀ov iv,subscripted i false ov iv=operate [ov,iv] (getItem ov iv)
theorem dc8 {prog:Program}{w:World}{A:Around}{E:Value->Shared->Prop}{s:Shared}{env:Env}{value slice:Expr}{pos:Pos}{T id:String}{Q:Value->Shared->Prop}
   (hl:typeLookup (.type T) "__getitem__"=pure (some (.builtin id))) (hs:dk3 slice)
   (h:wpAny (model prog w) A (eval value env) (fun o s₁=>wpAny (model prog w) A (eval slice env) (fun i s₂=>s₂.TypeIs o T/\wpAny (model prog w) A (getItem o i) Q E s₂) E s₁) E s):
   wpAny (model prog w) A (eval (.Subscript value slice pos) env) Q E s:=by
 refine Subscript_ (wpAny_mono h (fun o s₁ h₁=>wpAny_mono h₁ (fun i s₂ h₂=> ?_) fun _ _ x=>x) fun _ _ x=>x);obtain ⟨hT,h₂⟩:=h₂;unfold subscriptTail;refine wpAny_bind ?_;rw[getitemInPython_of_ne hT.not_modules];refine wpAny_bind (wpAny_specialOf hT hl ?_)
 have fin:wpAny (model prog w) A (subscripted slice false o i) (fun r s₃=>wpAny (model prog w) A (letTemporaryGo value o r >>=fun _=>pure r) Q E s₃) E s₂:=by
   rw[hs o i];exact wpAny_operating (wpAny_mono h₂ (fun r s₃ h₃=>wpAny_bind (wpAny_letTemporaryGo (wpAny_pure h₃))) fun _ _ x=>x)
 first
   |exact wpAny_pure (wpAny_bind fin)
   |exact wpAny_bind (wpAny_pure (wpAny_bind fin))
   |exact wpAny_bind fin
theorem cc6 {X:Cx}{pins:List (Addr×Obj)}{σ:St}{H:Hp}{s:Shared}{a:Addr}{y:V}{o:Option V}(I:i5 X pins σ H s)(g:W9 H a y o):s.TypeIs (.ref a) "dict":=by
 rcases g with ⟨kvs,k,e,_,_⟩|⟨kvs,k,b,e,_,_,_⟩
 · obtain ⟨_,_,vs,_,dd⟩:=aq5 I.hok e;exact dd.typeIs
 · obtain ⟨_,_,xs,_,dd⟩:=aq6 I.hok e;exact dd.typeIs
def dq3 (td ty:TE):TE:=fun σ H Q=>td σ H fun x H1=>ty σ H1 fun y H2=>∃a v,x= .ref a/\W9 H2 a y (some v)/\Q v H2
def dw6 (ty td:TE):TE:=fun σ H Q=>ty σ H fun y H1=>td σ H1 fun x H2=>∃a o,x= .ref a/\W9 H2 a y o/\Q (.bl o.isSome) H2
def dc9 (ty td:TE):TE:=fun σ H Q=>ty σ H fun y H1=>td σ H1 fun x H2=>∃a o,x= .ref a/\W9 H2 a y o/\Q (.bl (!o.isSome)) H2
def dq4 (td ty tv:TE):TS:=fun D σ H=>tv σ H fun v H1=>td σ H1 fun x H2=>ty σ H2 fun y H3=>∃a H4,x= .ref a/\aq7 H3 a y v H4/\D.nx σ H4
section
variable {X:Cx} {o i e value:Expr} {pos pos' tpos:Pos} {td ty tv:TE}
theorem an5 (hu:X.A.units+1 < cLine)(ho:PE X o td)(hi:PE X i ty)(hs:dk3 i):PE X (.Subscript o i pos) (dq3 td ty):=by
 intro pins s σ H Q I h;refine dc8 PySem.F.slot_dict_getitem.lookup hs (q0 (ho pins s σ H _ I h) fun u s1 ⟨x,H1,I1,rx,q1⟩=>q0 (hi pins s1 σ H1 _ I1 q1) fun iv s2 ⟨y,H2,I2,ry,a,v,ex,g,q2⟩=> ?_);subst ex;obtain rfl:u=Value.ref a:=rx;exact ⟨cc6 I2 g,cn9 hu I2 g ry fun w' s3 I3 rw'=>⟨v,H2,I3,rw',q2⟩⟩
theorem dk4 (hu:X.A.units+1 < cLine)(hi:PE X i ty)(ho:PE X o td):PC X .In i o (dw6 ty td):=by
 intro pins s σ H Q I h
 refine q0 (hi pins s σ H _ I h) fun iv s1 ⟨y,H1,I1,ry,q1⟩=>q0 (ho pins s1 σ H1 _ I1 q1) fun u s2 ⟨x,H2,I2,rx,a,ov,ex,g,q2⟩=> ?_
 subst ex;obtain rfl:u=Value.ref a:=rx
 exact dw5 hu I2 g ry fun s3 I3=>⟨.bl ov.isSome,H2,I3,rfl,q2⟩
theorem aw2 (hu:X.A.units+1 < cLine)(hi:PE X i ty)(ho:PE X o td):PC X .NotIn i o (dc9 ty td):=by
 intro pins s σ H Q I h
 refine q0 (hi pins s σ H _ I h) fun iv s1 ⟨y,H1,I1,ry,q1⟩=>q0 (ho pins s1 σ H1 _ I1 q1) fun u s2 ⟨x,H2,I2,rx,a,ov,ex,g,q2⟩=> ?_
 subst ex;obtain rfl:u=Value.ref a:=rx
 exact dc7 hu I2 g ry fun s3 I3=>⟨.bl (!ov.isSome),H2,I3,rfl,q2⟩
theorem an6 (hu:X.A.units+1 < cLine)(ho:PE X o td)(hi:PE X i ty)(hv:PE X value tv)(hs:swapsWith value (some (.Subscript o i pos')) pos.line X.env=pure false):
   PS X (.Assign [.Subscript o i pos'] value pos) (dq4 td ty tv):=by
 intro pins s σ H D I h;refine wpAny_Assign_Subscript (q0 (hv pins s σ H _ I h) fun r s1 ⟨v,H1,I1,rv,q1⟩=>q0 (ho pins s1 σ H1 _ I1 q1) fun u s2 ⟨x,H2,I2,rx,q2⟩=>q0 (hi pins s2 σ H2 _ I2 q2) fun iv s3 ⟨y,H3,I3,ry,a,H4,ex,g,q3⟩=> ?_) hs;subst ex;obtain rfl:u=Value.ref a:=rx
 exact co1 hu I3 g ry rv fun s4 I4=>⟨σ,H4,I4,q3⟩
end
theorem cv7 {P:Program}{w:World}{H:Hp}(h:Heap)(hb:sysModules < h.objs.size):B9 P w H (h.push {cls:= .type "dict",data:= .dict #[]}) h.objs.size (.dK []):=
 ⟨eb4 _,beq_eq_false_iff_ne.mpr (Ne.symm (ee3 hb)),[],.nil,Heap.DictOf.new h⟩
def dk5:TE:=fun _ H Q=>∀p,H p=none->Q (.ref p) (c9 H p (.dK []))
section
variable {X:Cx} {pos:Pos}
theorem Y3:PE X (.Dict [] [] pos) dk5:=fun pins s σ H Q I h=>
 wpAny_Dict_empty ⟨.ref s.heap.objs.size,_,I.laid (a:=s.heap.objs.size) (o:= .dK []) (t':=s.toks) (fun _ _ q=>Heap.get?_push_of_some _ q) (dz3 _) (cv7 s.heap I.big),rfl,h _ (I.hok.fresh (dz3 _))⟩
end
structure M2 (X:Cx)(o:Expr)(m:Str)(apos:Pos)(e f:Expr)(cpos:Pos):Prop where
 base:attributeBase o m X.env (eval o X.env)=eval o X.env
 few:((backTo cpos (starEach [e,f] X.env)).all (fun x=> !x.1)&&(backToKw cpos (keywordEach [] X.env)).all (fun x=>x.1.isSome)
   &&decide (([e,f]:List Expr).length+([]:List Keyword).length+(if ([]:List Keyword).isEmpty then 0 else 1) < 30))=true
 line:(apos.endLine==cpos.line)=true
 trees:backTo cpos (starEach [e,f] X.env)=[(false,eval e X.env),(false,eval f X.env)]
def IsD (H:Hp)(a:Addr):Prop:=(∃kvs,Rd H a (.dK kvs))\/∃kvs,Rd H a (.dT kvs)
theorem dk6 {X:Cx}{pins:List (Addr×Obj)}{σ:St}{H:Hp}{s:Shared}{a:Addr}(I:i5 X pins σ H s)(d:IsD H a):
   s.TypeIs (.ref a) "dict"/\(∀b,Value.ref a= .ref b->∃ob,s.heap.get? b=some ob/\ob.dict=none)/\(a==sysModules)=false:=by
 rcases d with ⟨kvs,e⟩|⟨kvs,e⟩
 · obtain ⟨_,hd,vs,_,dd⟩:=aq5 I.hok e;refine ⟨dd.typeIs,fun b q=> ?_,hd⟩;cases q;obtain ⟨ob,_,_,h1,h2,_⟩:=dd;exact ⟨ob,h1,h2.2.1⟩
 · obtain ⟨_,hd,xs,_,dd⟩:=aq6 I.hok e;refine ⟨dd.typeIs,fun b q=> ?_,hd⟩;cases q;obtain ⟨ob,_,_,h1,h2,_⟩:=dd;exact ⟨ob,h1,h2.2.1⟩
section
variable {X:Cx} {pins:List (Addr×Obj)} {σ:St} {H:Hp} {s:Shared} {a:Addr} {y d:V} {u r:Value} {o:Option V} {A:Around} {E:Value->Shared->Prop}
theorem dk7 {Q:Value->Shared->Prop}(hu:A.units+1 < cLine)(I:i5 X pins σ H s)(g:W9 H a y o)(ry:o5 y u)(rd:o5 d r)(h:∀w' s',i5 X pins σ H s'->o5 (o.getD d) w'->Q w' s'):
   wpAny (model X.prog X.w) A (call (.builtin "dict.get") [.ref a,u,r]) Q E s:=by
 rcases g with ⟨kvs,k,e,ey,l⟩|⟨kvs,k,b,e,ey,eb,l⟩
 · subst ey;obtain ⟨z,hd,vs,rel,dd⟩:=aq5 I.hok e;refine call_meetsIn PySem.F.slot_dict_get dd.typeIs PySem.F.entry_dict_get (PySem.F.args_dict_get_3 _ _ _) (meets_dict_get_default (E6 X.prog X.w) a (aq4 ry) hd r) ⟨_,dd.mapOf,h _ _ (I.tok _) ?_⟩;rw[l];exact (rel.val k).getD rd
 · subst ey;cases (show u=Value.ref b from ry);obtain ⟨z,hd,xs,rel,dd⟩:=aq6 I.hok e;refine call_meetsIn PySem.F.slot_dict_get dd.typeIs PySem.F.entry_dict_get (PySem.F.args_dict_get_3 _ _ _) (meetsH_dict_get_default (tupleKind (E6 X.prog X.w)) a b hd r) ⟨tupleKind_room_in1 hu,k,xs,an4 I.hok eb,dd,h _ _ (I.tok _) ?_⟩;rw[l];exact (rel.val k).getD rd
end
def dk8 (td ty tx:TE):TE:=fun σ H Q=>td σ H fun x H1=>∃a,x= .ref a/\IsD H1 a/\ty σ H1 fun y H2=>tx σ H2 fun z H3=>∃o,W9 H3 a y o/\Q (o.getD z) H3
section
variable {X:Cx} {o e f:Expr} {apos cpos:Pos} {td ty tx:TE}
theorem cv8 (hu:X.A.units+1 < cLine)(ho:PE X o td)(he:PE X e ty)(hf:PE X f tx)(m:M2 X o "get" apos e f cpos):PE X (.Call (.Attribute o "get" apos) [e,f] [] cpos) (dk8 td ty tx):=by
 intro pins s σ H Q I h;refine wpAny_Call_method m.base m.few m.line PySem.F.plainAttrs_dict PySem.F.slot_dict_get PySem.F.type_dict_get (q0 (ho pins s σ H _ I h) fun u s1 ⟨x,H1,I1,rx,a,ex,d,q1⟩=> ?_);subst ex;obtain rfl:u=Value.ref a:=rx;obtain ⟨t1,t2,_⟩:=dk6 I1 d;refine ⟨t1,t2,?_⟩;rw[m.trees]
 refine Calls.callWith_builtin rfl (Calls.evalArgs_plain (Calls.spliced_cons (q0 (he pins s1 σ H1 _ I1 q1) fun iv s2 ⟨y,H2,I2,ry,q2⟩=>
   Calls.spliced_cons (q0 (hf pins s2 σ H2 _ I2 q2) fun fv s3 ⟨z,H3,I3,rz,ov,g,q3⟩=>Calls.spliced_nil ?_))))
 exact dk7 hu I3 g ry rz fun w' s4 I4 rw'=>⟨_,H3,I4,rw',q3⟩
end
end L2
namespace Att
open PySem PySem.W PySem.Calls PyProof.Rows
theorem bh0 {P:Params}{h:Heap}:∀(ns:List Int) (vs:List Value),WellAll P h vs (ns.map WData.int)->IntsAre vs ns:=by
 intro ns
 induction ns with
 |nil=>
  intro vs w;rw[em6] at w;cases w;exact .nil
 |cons n ns ih=>
  intro vs w;rw[ed3] at w
  cases w with
  |cons a b=>
   cases a;exact .cons _ _ (ih _ b)
theorem co2 {l:OpenLaw}{n:Nat}(hn:l.most=some n){P:Params}{h:Heap}{args:List WData}{vals:List Value}
   (hpre:l.row.toRowW.claim.pre args=true) (hwl:WellAll P h vals args):
   ∃a vs ns,vals=[Value.ref a]/\args=[WData.list (ns.map WData.int)]/\h.get? a=some {cls:= .type "list",data:= .seq vs.toArray}/\IntsAre vs ns/\ns.length<=n:=by
 have hsh:WShape.hasAll [] args [.list .int]=true:=(pre_splitW hpre).1;have hc:l.pre.holds [] {args:=args}=true:=(pre_splitW hpre).2;obtain ⟨d,r,rfl,h1,h2⟩:=hasAllW_cons hsh;obtain rfl:=hasAllW_nil h2;obtain ⟨xs,rfl,h3⟩:=hasW_list h1;obtain ⟨ns,rfl⟩:=items_int h3
 have hlen:ns.length<=n:=by
   unfold OpenLaw.pre at hc
   have h4:(WTm.not (.lt (.lit (.int (n:Int))) (.len (.arg 0)))).holds [] {args:=[.list (ns.map .int)]}=true:=by
     have h4:=(holds_andW hc).1;rw[hn] at h4;exact h4
   have h5:=condW_of h4 (w_not (w_lt w_lit (w_len_list (w_arg rfl))));rw[dz0] at h5
   refine Nat.le_of_not_lt fun q=> ?_
   have q':(n:Int) < ((ns.length:Nat):Int):=by omega
   first
     |(rw[decide_eq_true q'] at h5;exact absurd h5 (by decide))
     |(simp at h5;omega)
 cases hwl with
 |cons w1 w2=>
  cases w2
  cases w1 with
  |list ho hall=>exact ⟨_,_,ns,rfl,rfl,ho,bh0 ns _ hall,hlen⟩
theorem co3 (l:OpenLaw)(args:List WData):l.row.toRowW.claim.post args (.bool true) args=true:=
 postW_of (r:=l.row.toRowW) (X:=(true==true))
   (show WShape.has [] (.bool true) .bool=true by first|rfl|decide|simp [WShape.has,WShape.arms,WShape.armsAll])
   (show (WTm.eq .res (.lit (.bool true))).value [] {args:=args,res:=some (.bool true),after:=args}=some (.bool (true==true)) from w_eq_bool (w_res rfl) w_lit) rfl
theorem dp0 {l:OpenLaw}{n:Nat}{q:Program}{loose:List Str}{XP:(Str->Option Value)->Heap->Prop}{YP:World->Heap->Prop}{d:DefRec}
   (hn:l.most=some n) (hdf:d.params.defaults=[])
   (call:∀(w:World) (s₀ s₁:Shared) (mg mb:Str->Option Value) (fa:Addr) (o:Obj) (pm cd doc:Value) (a:Addr) (vs:List Value) (ns:List Int),
     Ground q loose [] XP w s₀ mg mb s₁.heap->YP w s₁.heap->
     s₁.heap.get? fa=some o->o.data= .func (docDef d.name d.params d.body d.scope pm cd doc)->s₁.heap.CodeRec cd d.name->mg d.name=some (.ref fa)->
     s₁.heap.get? a=some {cls:= .type "list",data:= .seq vs.toArray}->IntsAre vs ns->ns.length<=n->s₁.gens= #[]->
     codeAny (model l.prog w) callerA (.call (.ref fa) ⟨[.ref a],[]⟩) (fun r s'=>r= .ok (.ret (.bool true))/\OldK s₁.heap s'.heap/\s'.os=s₁.os/\AllBare s'.gens) s₁):
   WalkO q loose XP YP l.row.toRowW d [] (fun f vs=>PySem.call f vs):=by
 intro w s₀ s₁ mg mb G Y fa o pm cd doc dV kV ho hd hcd hD hmg hg args vals as hpre hlay hrd hwl hlo;obtain rfl:dV= .none:=Dflts.none hD hdf;obtain rfl:kV= .none:=Dflts.noKw hD;obtain ⟨a,vs,ns,rfl,rfl,hobj,hints,hlen⟩:=co2 hn hpre hwl;refine enter_call (codeAny_mono (call w s₀ s₁ mg mb fa o pm cd doc a vs ns G Y ho (fd_plain hd) hcd hmg hobj hints hlen hg) fun r s' hq=> ?_);obtain ⟨rfl,h2,h3,h4⟩:=hq;exact ⟨.inl ⟨.bool true,.bool true,[],rfl,fun _=>rfl,.bool true,co3 l _,fun _=>⟨List.Pairwise.nil,fun _ hm=>(nomatch hm)⟩⟩,h2,h3,h4⟩
end Att
namespace L2
local macro_rules|`(tactic|omega)=>`(tactic|lia)
open PySem PySem.Spec PyProof.Rows
theorem bp3:∀{vs:List Value} {ns:List Int},IntsAre vs ns->m7 (ns.map V.int) vs
 |_,_,.nil=> .nil
 |_,_,.cons n t h=> .cons ⟨t,rfl⟩ (bp3 h)
def cv9 (H:Hp):Prop:=∀b,H b=none\/∃o xs,H b=some (.frz o (.lst xs))
theorem cw0 {P:Program}{w:World}{K:PySem.W.Frag}{mg mb:Str->Option Value}{CX:CXT}{k:Nat}{fa a:Addr}{fd:FuncData}{x:Str}{sp:Sp}{s₁:Shared}{vs:List Value}{ns:List Int}
   (KX:K.In s₁.heap) (hns:s₁.heap.Ns mainGlobals mg) (hb:s₁.heap.Ns builtinsNs mb) (hbb:∀x:Str,x≠"__name__"->mb x=bootBuiltins x) (hlim:s₁.heap.NoLimit) (hg:s₁.gens= #[])
   (ha:s₁.heap.get? a=some {cls:= .type "list",data:= .seq vs.toArray}) (hi:IntsAre vs ns) (hl:ns.length<=sizeLine) (hr:l9 k callerA)
   (F:∀base:Heap,K.In base->base.Ns mainGlobals mg->n6 P w K mg base CX k fa fd [x] sp) (hbind:∀(s:Shared) (u:Value),BindsTo s fd ⟨[u],[]⟩ [(x,u)])
   (hsp:∀H:Hp,cv9 H->h8 K H a (ns.map V.int)->sp [.ref a] H (fun v _=>v= .bl true) fun _ _ _=>False)
   (hCX:∀H e s',CX [] H s₁ (fun _ _ _=>False) e s'->False):
   codeAny (model P w) callerA (.call (.ref fa) ⟨[.ref a],[]⟩) (fun r s'=>r= .ok (.ret (.bool true))/\OldK s₁.heap s'.heap/\s'.os=s₁.os/\AllBare s'.gens) s₁:=by
 have rv:=bp3 hi;have lenV:=hi.length
 have core:∀H:Hp,cv9 H->h8 K H a (ns.map V.int)->K5 P w H s₁.heap->(∀b,H b≠none->b=a)->(H a≠none->K.lookup a=none)->
     codeAny (model P w) callerA (.call (.ref fa) ⟨[.ref a],[]⟩) (fun r s'=>r= .ok (.ret (.bool true))/\OldK s₁.heap s'.heap/\s'.os=s₁.os/\AllBare s'.gens) s₁:=by
   intro H hO hS hok hA hK
   have bb5:∀{b:Addr} {o:Obj},s₁.heap.get? b=some o->H b=none->(ap8 s₁.heap H).get? b=some o:=fun e n=>cu5 e n
   have noA:∀{b:Addr} {o:Obj} {es:Array DictEntry} {ep:Nat},s₁.heap.get? b=some o->o.data= .dict es ep->H b=none:=fun {b o es ep} e d=>by
     cases q:H b with
     |none=>rfl
     |some u=>
      have e':b=a:=hA b (by rw[q];simp);subst e';rw[ha] at e;cases e;have d':Data.seq vs.toArray _=Data.dict es ep:=d;cases d'
   have nsK:∀{b:Addr} {m:Str->Option Value},s₁.heap.Ns b m->(ap8 s₁.heap H).Ns b m:=fun {b m} ⟨o,es,ep,e,d,r⟩=>⟨o,es,ep,bb5 e (noA e d),d,r⟩
   have hKb:K.In (ap8 s₁.heap H):=fun b o e=>bb5 (KX b o e) (by
     cases q:H b with
     |none=>rfl
     |some u=>
      have e':b=a:=hA b (by rw[q];simp);subst e'
      rw[hK (by rw[q];simp)] at e;cases e)
   have hM:Mod K mg (ap8 s₁.heap H):=⟨hKb,nsK hns,⟨mb,nsK hb,hbb⟩,let ⟨mc,h1,h2⟩:=hlim;⟨mc,nsK h1,h2⟩⟩;have e0:ci9 P w K mg (ap8 s₁.heap H) callerA [] s₁ H:=⟨rfl,hM,fun b o e=>db9 e,en8 (cm1 _ _),trivial,fun b hb=>absurd (show b∈([]:List Addr) from hb) (by simp),hok,.of_eq hg⟩
   refine codeAny_mono ((F _ hKb (nsK hns)).run callerA [] s₁ H ⟨[.ref a],[]⟩ [.ref a] [.ref a] _ _ hr e0 (hbind s₁ (.ref a)) (.cons rfl .nil) (hsp H hO hS)) fun r s' h=> ?_
   cases r with
   |error e=>exact (hCX H e s' h).elim
   |ok fl=>
    cases fl with
    |next=>exact False.elim h
    |brk=>exact False.elim h
    |cont=>exact False.elim h
    |ret u=>
     obtain ⟨v,H',os,bare,un,hok',r',q⟩:=h;have q':v= .bl true:=q;subst q';obtain rfl:u=Value.bool true:=r';refine ⟨rfl,OldK.of_keep fun b o e=> ?_,os,bare⟩
     cases q:H b with
     |none=>exact un.keep b o e q (by intro z;exact absurd (show b∈([]:List Addr) from z) (by simp)) (by simp)
     |some u=>
      rcases hO b with z|⟨ob,xs,z⟩
      · rw[q] at z;cases z
      · have z2:=un.frzs b ob _ z;obtain ⟨e1,_⟩:=hok b _ z;obtain ⟨e2,_⟩:=hok' b _ z2;rw[e] at e1;cases e1;exact e2
 cases hk:K.lookup a with
 |some o=>
  have e:=KX a o hk;rw[ha] at e;cases e
  refine core (fun _=>none) (fun _=> .inl rfl) (.inr ⟨_,vs.toArray,_,hk,rfl,rfl,rfl,by rw[ea6,lenV];exact hl,by simpa using rv⟩) (fun b u z=>by have z':(none:Option HO)=some u:=z;cases z') (fun b z=>absurd rfl z) fun z=>absurd rfl z
 |none=>
  refine core (fun b=>if b=a then some (.frz {cls:= .type "list",data:= .seq vs.toArray} (.lst (ns.map V.int))) else none) (fun b=> ?_) (.inl (.inr ⟨{cls:= .type "list",data:= .seq vs.toArray},if_pos rfl⟩)) (fun b u z=> ?_) (fun b z=> ?_) fun _=>hk
  · by_cases hb:b=a
    · exact .inr ⟨_,_,if_pos hb⟩
    · exact .inl (if_neg hb)
  · by_cases hb:b=a
    · have z':=(if_pos hb).symm.trans z;cases z';subst hb;exact ⟨ha,by rw[dz0];exact hl,vs,_,rv,ha⟩
    · have z':=(if_neg hb).symm.trans z;cases z'
  · by_cases hb:b=a
    · exact hb
    · exact absurd (if_neg hb) z
end L2
namespace L2
local macro_rules|`(tactic|omega)=>`(tactic|lia)
open PySem PySem.Spec PyProof.Rows
theorem dx4 {l:PySem.W.OpenLaw}{n k:Nat}{q:Program}{loose:List Str}{XP:(Str->Option Value)->Heap->Prop}{YP:World->Heap->Prop}{d:DefRec}{K:Params->PySem.W.Frag}{CX:World->CXT}{sp:World->Sp}{x:Str}
   (hn:l.most=some n) (hn2:n<=sizeLine) (hdf:d.params.defaults=[]) (hr:l9 k callerA)
   (hY:∀(w:World) (h:Heap),YP w h->(K w.params).In h)
   (F:∀(w:World) (mg:Str->Option Value) (fa:Addr) (h:Heap),(K w.params).In h->h.Ns mainGlobals mg->mg d.name=some (.ref fa)->
     ∃fd:FuncData,(∀(s:Shared) (u:Value),BindsTo s fd ⟨[u],[]⟩ [(x,u)])/\
      ∀base:Heap,(K w.params).In base->base.Ns mainGlobals mg->n6 l.prog w (K w.params) mg base (CX w) k fa fd [x] (sp w))
   (hsp:∀(w:World) (H:Hp) (a:Addr) (ns:List Int),ns.length<=n->cv9 H->h8 (K w.params) H a (ns.map V.int)->sp w [.ref a] H (fun v _=>v= .bl true) fun _ _ _=>False)
   (hCX:∀(w:World) (H:Hp) (s:Shared) (e:Value) (s':Shared),CX w [] H s (fun _ _ _=>False) e s'->False):
   PySem.W.WalkO q loose XP YP l.row.toRowW d [] (fun f vs=>PySem.call f vs):=by
 refine Att.dp0 hn hdf fun w s₀ s₁ mg mb fa o pm cd doc a vs ns G Y ho hd hcd hmg hobj hints hlen hg=> ?_
 have KX:=hY w _ Y;obtain ⟨fd,hb,hF⟩:=F w mg fa _ KX G.T.g hmg
 exact cw0 KX G.T.g G.T.b G.T.builtins G.T.nolimit hg hobj hints (ea4 hlen hn2) hr hF hb (fun H hO hS=>hsp w H a ns hlen hO hS) fun H e s'=>hCX w H s₁ e s'
end L2
namespace L2
local macro_rules|`(tactic|omega)=>`(tactic|lia)
open PySem PySem.Spec PyProof.Rows
def ag4 (s:Stmt):Arguments:=match s with
 | .FunctionDef _ a _ _ _ _ _ _ _ _=>a
 |_=>{posonlyargs:=[],args:=[],vararg:=none,kwonlyargs:=[],kw_defaults:=[],kwarg:=none,defaults:=[]}
def Z1 (s:Stmt):List Stmt:=match s with
 | .FunctionDef _ _ b _ _ _ _ _ _ _=>b
 |_=>[]
def j7 (s:Stmt):Scope:=match s with
 | .FunctionDef _ _ _ _ _ _ sc _ _ _=>sc
 |_=>{kind:= .function,names:=[],isGenerator:=false,isCoroutine:=false}
abbrev E9:CXT:=fun _ _ _ _ _ _=>False
abbrev E0:XK:=fun _ _ _=>False
theorem dq5 {X:Cx}:aw0 E9 X E0:=fun _ _ _ _ _ _ _ h=>h.elim
structure C7 (K:PySem.W.Frag)(x qual:Str)(st:Stmt)(f:Addr)(fd:FuncData):Prop where
 ex:∃(oc:Value) (od:Option Addr) (kV doc pm:Value) (an:Option Addr) (cdv ct:Value) (osl:Array (Option Value)),
   fd=PySem.W.fnOf x qual (ag4 st) (Z1 st) (j7 st) .none kV doc pm an cdv ct/\K.lookup f=some ⟨oc,od,.func fd,osl⟩/\PySem.W.codeIn K cdv qual=true
 kp:PySem.W.keepIn K (.ref f)=true
section
variable {P:Program} {w:World} {K:PySem.W.Frag} {mg:Str->Option Value} {base:Heap}
theorem C7.ok {x qual:Str}{st:Stmt}{f:Addr}{fd:FuncData}{N ps:List Str}{k:Nat}{sp:Sp}(F:C7 K x qual st f fd)(S:m9 N ps (j7 st))(len:∀vs H Q E,sp vs H Q E->vs.length=ps.length)
   (hbody:∀(cdv:Value) (A:Around) (outer:List Env) (s:Shared) (H:Hp) (vs:List V) (Q:VK) (E:XK),l9 k (A.deeper (envOfC qual (j7 st) s.heap.objs.size f cdv))->sp vs H Q E->
     ∃t,Z7 (x9 E9 P w K mg base N qual (j7 st) f cdv A outer s H E).nox (Z1 st) t/\t {nx:=fun _ H'=>Q .non H',rt:=Q} (ad1 N vs) H):n6 P w K mg base E9 (k+1) f fd ps sp:=by
 obtain ⟨oc,od,kV,doc,pm,an,cdv,ct,osl,rfl,lk,hcd⟩:=F.ex
 refine da7 lk hcd S len fun A outer s H vs Q E hr hsp=> ?_
 obtain ⟨t,h,q⟩:=hbody cdv A outer s H vs Q E hr hsp;exact ⟨t,h.nox,q⟩
theorem C7.binds {x qual:Str}{st:Stmt}{f:Addr}{fd:FuncData}{ps:List Str}(F:C7 K x qual st f fd)
   (h:∀(kV doc pm:Value) (an:Option Addr) (cdv ct:Value) (us:List Value),us.length=ps.length->bindArgs (PySem.W.fnOf x qual (ag4 st) (Z1 st) (j7 st) .none kV doc pm an cdv ct) ⟨us,[]⟩=pure (ps.zip us)):af9 K fd ps []:=by
 obtain ⟨oc,od,kV,doc,pm,an,cdv,ct,osl,rfl,lk,hcd⟩:=F.ex;exact .all (h kV doc pm an cdv ct)
theorem dk9 {x qual:Str}{st:Stmt}{f:Addr}{oc:Value}{od an:Option Addr}{osl:Array (Option Value)}{kV doc pm cdv ct:Value}(l:K.lookup f=some ⟨oc,od,.func (PySem.W.fnOf x qual (ag4 st) (Z1 st) (j7 st) .none kV doc pm an cdv ct),osl⟩)
 (c:PySem.W.codeIn K cdv qual=true) (k:PySem.W.keepIn K (.ref f)=true):C7 K x qual st f (PySem.W.fnOf x qual (ag4 st) (Z1 st) (j7 st) .none kV doc pm an cdv ct):=⟨⟨oc,od,kV,doc,pm,an,cdv,ct,osl,rfl,l,c⟩,k⟩
end
theorem P9 {A:Around}{k:Nat}(hr:l9 k A):A.units+1 < cLine:=eb5 (ej4 (by decide:1<=64) _) hr.units
theorem x8 {n:Nat}(h:n<=1000):n < sizeLine:=eb5 h (by decide)
section
variable {X:Cx}
theorem pv (i:Nat){x:Str}{pos:Pos}(hN:X.N[i]? =some x:=by rfl)(hv:Vis X.env.scope x:=by first|exact Or.inl rfl|exact Or.inr (Or.inl rfl)|exact Or.inr (Or.inr rfl))(hd:(x==("__debug__":Str))=false:=by decide)
 (hcd:(x==("__classdict__":Str))=false:=by decide):PE X (.Name x pos) (di4 i):=di5 hN hv hd hcd
end
theorem C0 {A B:Prop}(h:B):if false=true then A else B:=by
 rw[if_neg eb1];exact h
theorem L9 {A B:Prop}(h:A):if true=true then A else B:=by
 rw[if_pos rfl];exact h
theorem aa0 {c A B:Prop}[Decidable c](h1:c->A)(h2:¬c->B):if c then A else B:=by
 by_cases h:c
 · rw[if_pos h];exact h1 h
 · rw[if_neg h];exact h2 h
theorem ba2 {c A B:Prop}[Decidable c](hc:c)(h:B):if (!decide c)=true then A else B:=by
 rw[decide_eq_true hc];exact C0 h
def e8 (H H':Hp):Prop:=∀b o,H b=some o->H' b=some o
theorem e8.refl (H:Hp):e8 H H:=fun _ _ h=>h
theorem e8.trans {H H1 H2:Hp}(a:e8 H H1)(b:e8 H1 H2):e8 H H2:=fun c o h=>b c o (a c o h)
theorem e8.free {H H':Hp}(e:e8 H H'){l:Addr}(h:H' l=Option.none):H l=Option.none:=by
 cases q:H l with
 |none=>rfl
 |some o=>
  rw[e l o q] at h;cases h
section
variable {κ:Type} [DecidableEq κ]
theorem an7:∀{l:List κ} {k:κ},l.Nodup->¬k∈l->(l++[k]).Nodup
 |[],k,_,_=>by simp
 |a::r,k,h,hk=>by
  obtain ⟨h1,h2⟩:=ed6.mp h;show (a::(r++[k])).Nodup;refine ed6.mpr ⟨fun m=> ?_,an7 h2 fun m=>hk (ea8.mpr (Or.inr m))⟩
  rcases ea3.mp m with q|q
  · exact h1 q
  · exact hk (ea8.mpr (Or.inl (ea1.mp q).symm))
end
end L2
set_option maxHeartbeats 8000000
namespace L2
local macro_rules|`(tactic|omega)=>`(tactic|lia)
open PySem PySem.Spec PyProof.Rows
def X3 (X:Cx)(N:List Str)(scope:Scope)(cl:List (Str×Addr))(C:Addr)(s0:Shared)(H0:Hp)(ex:List Addr):Cx:=
 {X with N:=N,s₀:=s0,H₀:=H0,env:=compEnvC scope cl C X.env,outer:=X.stack,stack:=X.stack,ex:=ex,fn:=fun _=>false,pn:=[],xe:=fun _ _=>False}
def bh1 (nl:Nat)(fr:List Nat)(σ:St):St:=ec3 nl none++fr.map fun j=>(σ[j]?).join
def J1 (env:Env):List (Str×NameKind)->List (Str×Addr)->List (Str×Addr)
 |[],cs=>cs
 |(n,k)::r,cs=>J1 env r (if (k==NameKind.free)=true then (n,(env.cells.lookup n).getD 0)::cs else cs)
theorem bh2 (env:Env):∀(ns:List (Str×NameKind)) (cs:List (Str×Addr)),(∀p∈ns,p.2= .free->∃c,env.cells.lookup p.1=some c)->(∀y c,cs.lookup y=some c->env.cells.lookup y=some c)->
   ∀y c,(J1 env ns cs).lookup y=some c->env.cells.lookup y=some c
 |[],cs,_,h,y,c,e=>h y c e
 |(n,k)::r,cs,hn,h,y,c,e=>by
  unfold J1 at e;refine bh2 env r _ (fun p hp=>hn p (ea0 _ hp)) ?_ y c e;intro z d ez
  split at ez
  · rename_i hk;rw[eg4] at ez
    cases hz:z==n with
    |true=>
     rw[hz] at ez;have hzn:z=n:=eq_of_beq hz;subst hzn
     have hkf:k= .free:=by simpa using hk
     obtain ⟨c',hc'⟩:=hn (z,k) dz7 hkf;have hc':env.cells.lookup z=some c':=hc';rw[hc'] at ez;rw[hc']
     simpa using ez
    |false=>
     rw[hz] at ez;exact h z d ez
  · exact h z d ez
theorem bc4 (env:Env):∀(ns:List (Str×NameKind)) (cs:List (Str×Addr)) (y:Str),(∃c,cs.lookup y=some c)->∃c,(J1 env ns cs).lookup y=some c
 |[],cs,y,h=>h
 |(n,k)::r,cs,y,⟨c,h⟩=>by
  unfold J1;refine bc4 env r _ y ?_
  split
  · rw[eg4]
    cases hz:y==n with
    |true=>exact ⟨_,rfl⟩
    |false=>exact ⟨c,h⟩
  · exact ⟨c,h⟩
theorem aq8 (env:Env):∀(ns:List (Str×NameKind)) (cs:List (Str×Addr)) (p:Str×NameKind),p∈ns->p.2= .free->∃c,(J1 env ns cs).lookup p.1=some c
 |[],cs,p,hp,_=>by simp at hp
 |(n,k)::r,cs,p,hp,hk=>by
  unfold J1
  rcases ea8.mp hp with e|hp
  · subst e;have hk:k= .free:=hk;subst hk;refine bc4 env r _ n ?_;rw[if_pos (by rfl),eg4];exact ⟨(List.lookup n env.cells).getD 0,by simp⟩
  · exact aq8 env r _ p hp hk
theorem aw3 (env:Env):∀(ns:List (Str×NameKind)) (cs:List (Str×Addr)),(∀p∈ns,p.2= .free->∃c,env.cells.lookup p.1=some c)->
   (forIn ns cs (fun (x:Str×NameKind) (r:List (Str×Addr))=>if (x.2==NameKind.free)=true then (do let a <-cellOf env x.1;pure (ForInStep.yield ((x.1,a)::r))) else pure (ForInStep.yield r)):Sem (List (Str×Addr)))=pure (J1 env ns cs)
 |[],cs,_=>rfl
 |(n,k)::r,cs,hn=>by
  have ih:=fun cs'=>aw3 env r cs' fun p hp=>hn p (ea0 _ hp)
  rw[List.forIn_cons];unfold J1
  by_cases hk:(k==NameKind.free)=true
  · obtain ⟨c,hc⟩:=hn (n,k) dz7 (by simpa using hk);have hc:env.cells.lookup n=some c:=hc;rw[if_pos hk,if_pos hk]
    have e1:cellOf env n=pure c:=by unfold cellOf;rw[hc]
    rw[e1,hc];exact ih _
  · rw[if_neg hk,if_neg hk];exact ih _
theorem au9 {scope:Scope}{env:Env}(h:∀p∈scope.names,p.2= .free->∃c,env.cells.lookup p.1=some c):closureFor scope env=pure (J1 env scope.names []):=by
 have e:=aw3 env scope.names [] h;unfold closureFor;show (forIn scope.names [] _ >>=_)=_;have e2:(forIn scope.names ([]:List (Str×Addr)) (fun (x:Str×NameKind) (r:List (Str×Addr))=>match x with|(name,kind)=>(if (kind==NameKind.free)=true then (do let a <-cellOf env name;pure PUnit.unit;pure (ForInStep.yield ((name,a)::r))) else (do pure PUnit.unit;pure (ForInStep.yield r)))):Sem (List (Str×Addr)))=pure (J1 env scope.names []):=e
 first
   |exact (congrArg (fun z=>z >>=fun cs=>pure cs) e2)
   |(rw[show (forIn scope.names ([]:List (Str×Addr)) _:Sem (List (Str×Addr)))=pure (J1 env scope.names []) from e];rfl)
section
variable {X:Cx}
def bv8 (X:Cx)(ifs:List Expr)(t:TT):Prop:=
 ∀(pins:List (Addr×Obj)) (s:Shared) (σ:St) (H:Hp) (Q:Bool->Hp->Prop),i5 X pins σ H s->t σ H Q->
  wpAny (model X.prog X.w) X.A (forIn ifs true fun c r=>if r=true then do let ok <-isTrue c X.env (eval c X.env);pure (ForInStep.yield ok) else pure (ForInStep.yield r)) (TP X pins σ Q) X.xe s
def dw7:TT:=fun _ H Q=>Q true H
theorem cw1:bv8 X [] dw7:=fun pins s σ H Q I h=>by
 rw[List.forIn_nil];exact wpAny_pure ⟨H,I,h⟩
theorem ah2 {c:Expr}{t:TT}(h:PT X c t):bv8 X [c] t:=by
 intro pins s σ H Q I hw;rw[List.forIn_cons,if_pos rfl];refine wpAny_bind (wpAny_bind (q0 (h pins s σ H Q I hw) fun b s1 q=>wpAny_pure ?_));show wpAny _ _ (forIn [] b _) _ _ s1;rw[List.forIn_nil];exact wpAny_pure q
theorem bv9 {prog:Program}{w:World}{A:Around}{R:Result->Shared->Prop}{s:Shared}{elt target iter:Expr}{ifs:List Expr}{scope:Scope}{pos:Pos}{it acc:Value}{env:Env}(I:Nat->Shared->Prop)
   (turn:∀n s,I n s->wpAny (model prog w) A (pyNext it) (fun r s1=>match r with
     |none=>R (.ok .next) s1
     |some v=>wpAny (model prog w) A (letOwnedTupleGo target it v) (fun _ s2=>wpAny (model prog w) A (assign target env v) (fun _ s3=>
         wpAny (model prog w) A (forIn ifs true fun c r=>if r=true then do let ok <-isTrue c env (eval c env);pure (ForInStep.yield ok) else pure (ForInStep.yield r)) (fun ok s4=>
           if ok=true then wpAny (model prog w) A (eval elt env) (fun x s5=>
             wpAny (model prog w) A (call (.builtin "list.append") [acc,x]) (fun _ s6=>∃m,m < n/\I m s6) (fun _ _=>False) s5) (fun _ _=>False) s4
           else ∃m,m < n/\I m s4) (fun _ _=>False) s3) (fun _ _=>False) s2) (fun _ _=>False) s1) (fun _ _=>False) s)
   (n:Nat) (h:I n s):
   codeAny (model prog w) A (.compLoop (.ListComp elt [⟨target,iter,ifs,0⟩] scope pos) 0 it acc env) R s:=by
 refine codeAny_loop rfl I (fun n s hI=> ?_) n h;show wpAny _ A ((compTurn (.ListComp elt [⟨target,iter,ifs,0⟩] scope pos) 0 it acc env).onRaise (fun x=>do noteFrame x env;theTreesLotGoes x)) _ _ s;refine wpAny_noted ?_;rw[compTurn_list];refine wpAny_bind (wpAny_standAt (wpAny_bind (wpAny_mono (turn n s hI) (fun r s1 h1=> ?_) fun _ _ f=>f.elim)))
 cases r with
 |none=>exact wpAny_pure h1
 |some v=>
  refine wpAny_bind (wpAny_mono h1 (fun _ s2 h2=> ?_) fun _ _ f=>f.elim);refine wpAny_bind (wpAny_mono h2 (fun _ s3 h3=>wpAny_bind (wpAny_mono h3 (fun ok s4 h4=> ?_) fun _ _ f=>f.elim)) fun _ _ f=>f.elim)
  cases ok with
  |false=>exact wpAny_pure ⟨rfl,h4⟩
  |true=>
   exact wpAny_bind (wpAny_bind (wpAny_mono h4 (fun x s5 h5=>wpAny_bind (wpAny_mono h5 (fun _ s6 h6=>wpAny_pure (wpAny_pure ⟨rfl,h6⟩)) fun _ _ f=>f.elim)) fun _ _ f=>f.elim))
def bt4 (J:It)(g:TG)(tc:TT)(te:TE)(Q:VK)(σ0:St)(H0:Hp):Prop:=∃W:Nat->Nat->List V->St->Hp->Prop,(∃m,W 0 m [] σ0 H0)/\∀i m ys σ' H',W i m ys σ' H'->
 (J.stop i H'/\∀D,H' D=none->Q (.ref D) (c9 H' D (.lst ys)))\/
 (J.go i H'/\∃N:List V->St->Hp->Prop,(∀ys' σ2 H2,N ys' σ2 H2->∃m',m' < m/\W (i+1) m' ys' σ2 H2)/\∀x H2,J.yld i H' x H2->g x σ' H2 fun σ2 H3=>tc σ2 H3 fun b H4=>
   if b=true then te σ2 H4 fun y H5=>ys.length < sizeLine/\N (ys++[y]) σ2 H5 else N ys σ2 H4)
def cj3 (nl:Nat)(fr:List Nat)(wi:TI)(g:TG)(tc:TT)(te:TE):TE:=fun σ H Q=>wi σ H fun J H1=>bt4 J g tc te Q (bh1 nl fr σ) H1
structure aw4 (X:Cx)(N:List Str)(nl:Nat)(fr:List Nat)(scope:Scope):Prop where
 cell:∀y∈scope.names,y.2≠.cell
 kind:scope.kind= .function
 names:∀y∈scope.names,y.2= .local->scope.names.lookup y.1=some .local
 free:∀p∈scope.names,p.2= .free->X.env.kindOf p.1=some .cell\/X.env.kindOf p.1=some .free
 len:N.length=nl+fr.length
 fr:∀(k j:Nat),fr[k]? =some j->∃y,N[nl+k]? =some y/\X.N[j]? =some y/\Vis X.env.scope y/\scope.names.lookup y=some .free
theorem ab6 {env:Env}:∀{names:List (Str×NameKind)} {x:Str} {k:NameKind},(names.map fun (n,k)=>if (k==NameKind.free&&env.scope.kind== .function&&env.kindOf n==some .cell) then (n,NameKind.cell) else (n,k)).lookup x=some k->
   k= .cell\/k= .free->(∀y∈names,y.2≠.cell)->∃p∈names,p.1=x/\p.2= .free
 |[],_,_,h,_,_=>by simp at h
 |(n,kn)::r,x,k,h,hk,hc=>by
  have ih:=@ab6 env r x k;rw[ed3] at h;have hcn:kn≠.cell:=hc (n,kn) dz7
  have hr:∀y∈r,y.2≠.cell:=fun y hy=>hc y (ea0 _ hy)
  cases hx:x==n with
  |true=>
   have hxn:x=n:=eq_of_beq hx
   by_cases hcc:(kn==NameKind.free&&env.scope.kind== .function&&env.kindOf n==some .cell)=true
   · refine ⟨(n,kn),dz7,hxn.symm,?_⟩;simp only[ef1] at hcc
     simpa using hcc.1.1
   · dsimp only at h
     rw[if_neg hcc,eg4,hx] at h;have hkk:kn=k:=Option.some.inj h;subst hkk
     rcases hk with z|z
     · exact absurd z hcn
     · exact ⟨(n,kn),dz7,hxn.symm,z⟩
  |false=>
   by_cases hcc:(kn==NameKind.free&&env.scope.kind== .function&&env.kindOf n==some .cell)=true
   · dsimp only at h
     rw[if_pos hcc,eg4,hx] at h;obtain ⟨p,hp,q⟩:=ih h hk hr;exact ⟨p,ea0 _ hp,q⟩
   · dsimp only at h
     rw[if_neg hcc,eg4,hx] at h;obtain ⟨p,hp,q⟩:=ih h hk hr;exact ⟨p,ea0 _ hp,q⟩
theorem aa8 {env:Env}:∀{names:List (Str×NameKind)} {x:Str},names.lookup x=some .free->
   (names.map fun (n,k)=>if (k==NameKind.free&&env.scope.kind== .function&&env.kindOf n==some .cell) then (n,NameKind.cell) else (n,k)).lookup x=some .cell\/
   (names.map fun (n,k)=>if (k==NameKind.free&&env.scope.kind== .function&&env.kindOf n==some .cell) then (n,NameKind.cell) else (n,k)).lookup x=some .free
 |[],_,h=>by simp at h
 |(n,kn)::r,x,h=>by
  have ih:=@aa8 env r x;rw[ed3]
  dsimp only
  cases hx:x==n with
  |true=>
   rw[eg4,hx] at h;have hkn:kn= .free:=Option.some.inj h
   by_cases hcc:(kn==NameKind.free&&env.scope.kind== .function&&env.kindOf n==some .cell)=true
   · rw[if_pos hcc,eg4,hx];exact .inl rfl
   · rw[if_neg hcc,eg4,hx];exact .inr (congrArg some hkn)
  |false=>
   rw[eg4,hx] at h
   by_cases hcc:(kn==NameKind.free&&env.scope.kind== .function&&env.kindOf n==some .cell)=true
   · rw[if_pos hcc,eg4,hx];exact ih h
   · rw[if_neg hcc,eg4,hx];exact ih h
theorem K5.track {P:Program}{w:World}{H:Hp}{h:Heap}{a:Addr}{o:HO}(x:K5 P w H h)(hn:H a=none)(new:B9 P w (c9 H a o) h a o):K5 P w (c9 H a o) h:=fun b u e=>by
 by_cases hb:b=a
 · subst hb;rw[c8] at e;cases e;exact new
 · rw[g7 hb] at e
   exact (x b u e).stay (fun c v _ q=>q) (fun c q=>by rw[g7 (g8 q hn)];exact q) fun c xs q=>by rw[g7 (g8 q hn)];exact q
theorem bp4 {elt tg iter:Expr}{ifs:List Expr}{scope:Scope}{pos:Pos}{wi:TI}{g:TG}{tc:TT}{te:TE}{N:List Str}{nl:Nat}{fr:List Nat}
   (hc:X.calm=true) (hi:PI X tg iter wi) (hg:∀cl C s0 H0 ex,PG (X3 X N scope cl C s0 H0 ex) tg g) (ht:∀cl C s0 H0 ex,bv8 (X3 X N scope cl C s0 H0 ex) ifs tc)
   (he:∀cl C s0 H0 ex,PE (X3 X N scope cl C s0 H0 ex) elt te) (ok:aw4 X N nl fr scope)
   {RR:Value->Addr->Result->Shared->Prop} {pins:List (Addr×Obj)} {s:Shared} {σ:St} {H:Hp} {Q:VK} (I:i5 X pins σ H s) (h:cj3 nl fr wi g tc te σ H Q)
   (hRR:∀D C s' H',i5 X pins σ H' s'->Q (.ref D) H'->av9 X pins H' C->(∃m,s'.heap.Ns C m)->RR (.ref D) C (.ok .next) s'):
   wpAny (model X.prog X.w) X.A (eval iter X.env) (fun x s1=>wpAny (model X.prog X.w) X.A (pyIter x) (fun it s2=>wpAny (model X.prog X.w) X.A (newList []) (fun acc s3=>
     wpAny (model X.prog X.w) X.A (newFunctionEnv scope X.env.globals (J1 X.env scope.names []) [] X.env.qual none .none (some X.env)) (fun cenv s4=>
       codeAny (model X.prog X.w) X.A (.compStart (.ListComp elt [⟨tg,iter,ifs,0⟩] scope pos) 0 it acc {cenv with scope:=relabel scope X.env}) (RR acc cenv.locals) s4) X.xe s3) X.xe s2) X.xe s1) X.xe s:=by
 refine q0 (hi pins s σ H _ I h) fun v s1 h1=>q0 h1 fun itv s2 h2=> ?_
 obtain ⟨it,fp,tn,J,H2,rfl,I2,T,st2,f2,W,⟨m0,w0⟩,turn⟩:=h2;refine wpAny_newObj_type (wpAny_newFunctionEnv ok.cell (by intro y hy;simp at hy) (fun h1 hns1 hsb1=> ?_) ok.kind)
 dsimp only at hns1 hsb1 ⊢
 generalize hHH:s2.heap.push {cls:= .type "list",dict:=none,data:= .seq ([]:List Value).toArray}=HH at hns1 hsb1 ⊢
 have hC:HH.objs.size=s2.heap.objs.size+1:=by rw[<-hHH,Heap.size_push]
 have hDC:s2.heap.objs.size≠HH.objs.size:=by rw[hC];exact ee3 (Nat.lt_succ_self _)
 have hCle:s2.heap.objs.size<=HH.objs.size:=by rw[hC];exact er6 _
 have below:∀b,b < s2.heap.objs.size->b≠HH.objs.size/\b≠s2.heap.objs.size:=fun b hb=>⟨by rw[hC];exact ee3 (es6 hb),ee3 hb⟩
 have old:∀b o,s2.heap.get? b=some o->h1.get? b=some o:=fun b o e=>hsb1.extBut b o (below b (Heap.lt_size e)).1 (Heap.get?_push_of_some _ (hHH▸Heap.get?_push_of_some _ e))
 have hacc:h1.get? s2.heap.objs.size=some {cls:= .type "list",data:= .seq ([]:List Value).toArray}:=hsb1.extBut _ _ hDC (Heap.get?_push_of_some _ (hHH▸Heap.get?_push_size _ rfl))
 have fplt:∀b∈fp,b < s2.heap.objs.size:=fun b hb=>by obtain ⟨o,e,_⟩:=T.obj 0 _ st2 b hb;exact Heap.lt_size e
 generalize hXd:X3 X N scope (J1 X.env scope.names []) HH.objs.size s2 H2 fp=X'
 have hfreeC:∀p∈scope.names,p.2= .free->∃c,X.env.cells.lookup p.1=some c:=fun p hp hf=>I.ok.has p.1 (ok.free p hp hf)
 have cellsSub:∀y c,(J1 X.env scope.names []).lookup y=some c->X.env.cells.lookup y=some c:=bh2 X.env scope.names [] hfreeC (fun y c e=>by simp at e)
 have cellLt:∀y c,X.env.cells.lookup y=some c->c < s2.heap.objs.size:=fun y c e=>by obtain ⟨v,z⟩:=I2.cell y c e;exact z.lt
 have ok':X'.Ok:=by
   rw[<-hXd]
   refine ⟨I.ok.mod,?_,I.ok.glob,I.ok.blt,hCle,fun x y c e1 e2=>I.ok.inj x y c (cellsSub x c e1) (cellsSub y c e2),fun x hx=> ?_,fun x c hf=>(by cases hf),I.ok.hd,I.ok.frames,.inl rfl,
     fun b hb=>⟨(below b (fplt b hb)).1,fun x c e=>(f2 b hb).2.2.2.2.1 x c (cellsSub x c e)⟩,I2.bs,ea4 I.ok.bsz I2.sz,fun b o e hb=> ?_,fun b hb hfs=> ?_,I2.stack,I2.stkFree⟩
   · show (relabel scope X.env).kind= .function;exact ok.kind
   · have hx':∃p∈scope.names,p.1=x/\p.2= .free:=by
       rcases hx with z|z
       · exact ab6 z (.inl rfl) ok.cell
       · exact ab6 z (.inr rfl) ok.cell
     obtain ⟨p,hp,rfl,hpf⟩:=hx';exact aq8 X.env scope.names [] p hp hpf
   · rcases (f2 b hb).2.2.2.1 with z|z
     · exact I.ok.noex b o e z
     · exact absurd (ec7 (Heap.lt_size e) (ea4 I.ok.bsz z)) (ek3 _)
   · rcases ea8.mp (I2.stkSub b hfs) with z|z
     · exact (f2 b hb).2.1 z
     · exact (f2 b hb).2.2.1 z
 have hX'd:X'.env.locals=HH.objs.size:=by rw[<-hXd];rfl
 have hX'c:X'.env.cells=J1 X.env scope.names []:=by rw[<-hXd];rfl
 have hX'pn:X'.pn=[]:=by rw[<-hXd];rfl
 have hX'ex:X'.ex=fp:=by rw[<-hXd];rfl
 have hX's0:X'.s₀=s2:=by rw[<-hXd];rfl
 have hX'H0:X'.H₀=H2:=by rw[<-hXd];rfl
 have hX'fs:X'.fs=J6 X.stack:=by rw[<-hXd];rfl
 have hX'xe:X'.xe=fun _ _=>False:=by rw[<-hXd];rfl
 have hX'A:X'.A=X.A:=by rw[<-hXd];rfl
 have hX'P:X'.prog=X.prog:=by rw[<-hXd];rfl
 have hX'w:X'.w=X.w:=by rw[<-hXd];rfl
 have hX'K:X'.K=X.K:=by rw[<-hXd];rfl
 have hX'calm:X'.calm=true:=by rw[<-hXd];exact hc
 have hX'env:X'.env=compEnvC scope (J1 X.env scope.names []) HH.objs.size X.env:=by rw[<-hXd];rfl
 have I':i5 X' [] (bh1 nl fr σ) H2 {s2 with heap:=h1,toks:=s2.toks+([]:List (Str×Value)).length}:=by
   refine ⟨ok',by rw[hX's0],I2.bare,?_,?_,fun x c e=> ?_,?_,fun x c e=> ?_,fun p hp=> ?_,?_,?_⟩
   · rw[hX'fs,hX'ex,hX'H0,hX's0];exact Un.kept old
   · obtain ⟨m,hn,hl⟩:=I2.loc;rw[hX'd];refine ⟨_,hns1,fun i x v e1 e2 e3=> ?_⟩
     have hN':N[i]? =some x:=by rw[<-hXd] at e1;exact e1
     unfold bh1 at e2
     have hi:¬i < nl:=fun hlt=>by
       rw[eb6 (by simpa using hlt),eu0,if_pos hlt] at e2;cases e2
     rw[eb9 (by simpa using hi),ek4,dz4] at e2
     cases ej:fr[i - nl]? with
     |none=>rw[ej] at e2;cases e2
     |some j=>
      rw[ej] at e2;obtain ⟨y,y1,y2,y3,y4⟩:=ok.fr (i - nl) j ej
      have hii:nl+(i - nl)=i:=by omega
      rw[hii,hN'] at y1;have hxy:x=y:=Option.some.inj y1;subst hxy;have e2':(σ[j]?).join=some v:=Option.some.inj e2
      have e2'':σ[j]? =some (some v):=by
        cases hσ:σ[j]? with
        |none=>rw[hσ] at e2';cases e2'
        |some z=>rw[hσ] at e2';exact congrArg some e2'
      obtain ⟨u,r,l⟩:=hl j x v y2 e2'' y3;have hkX:=ok.free (x,.free) (PySem.mem_of_lookup y4) rfl;refine ⟨u,r,.inr ⟨?_,?_⟩⟩
      · rw[hX'env]
        rcases aa8 (env:=X.env) y4 with z|z
        · exact .inl z
        · exact .inr z
      · rcases l with ⟨k1,_⟩|⟨_,c,ec,hcell⟩
        · rcases hkX with z|z
          · rw[z] at k1;cases k1
          · rw[z] at k1;cases k1
        · obtain ⟨c',ec'⟩:=aq8 X.env scope.names [] (x,.free) (PySem.mem_of_lookup y4) rfl
          have:c'=c:=by
            have q:=cellsSub x c' ec';rw[ec] at q;exact (Option.some.inj q).symm
          subst this;refine ⟨c',by rw[hX'c];exact ec',?_⟩;obtain ⟨oc,ho,hd⟩:=hcell;exact ⟨oc,old _ _ ho,hd⟩
   · rw[hX'c] at e;obtain ⟨v,oc,ho,hd⟩:=I2.cell x c (cellsSub x c e);exact ⟨v,oc,old _ _ ho,hd⟩
   · rw[hX'd];exact I2.hok.fresh hCle
   · rw[hX'c] at e;exact I2.freeC x c (cellsSub x c e)
   · rw[hX'pn] at hp;simp at hp
   · rw[hX'P,hX'w];exact I2.hok.kept old
   · unfold bh1
     have:X'.N=N:=by rw[<-hXd];rfl
     rw[this,ok.len,dz9,ek4,dz0]
 have Dn:∀{H':Hp} {pins'} {s':Shared} {σ'},i5 X' pins' σ' H' s'->H' s2.heap.objs.size=none->∀o,s'.heap.get? s2.heap.objs.size=some o->(∀v,o.data≠.cell v)->i5 X' [(s2.heap.objs.size,o)] σ' H' s':=fun {H' pins' s' σ'} I3 hD o ho hnc=>
   I3.pins_of fun p hp=>by
     have e:p=(s2.heap.objs.size,o):=by simpa using hp
     subst e;refine ⟨ho,hD,by rw[hX'd];exact hDC,?_,hnc⟩;rw[hX'fs];intro hb
     rcases ea8.mp (I2.stkSub _ hb) with z|z
     · exact absurd (z▸I2.lt) (ek3 _)
     · exact I2.nofs (dz3 _) z
 have loop:∀s₃:Shared,s₃={s2 with heap:=h1,toks:=s2.toks+([]:List (Str×Value)).length}->
     codeAny (model X.prog X.w) X.A (.compLoop (.ListComp elt [⟨tg,iter,ifs,0⟩] scope pos) 0 (.ref it) (.ref s2.heap.objs.size) (compEnvC scope (J1 X.env scope.names []) HH.objs.size X.env)) (RR (.ref s2.heap.objs.size) HH.objs.size) s₃:=by
   rintro s₃ rfl
   refine bv9 (fun n s'=>∃(i:Nat) (σ':St) (H':Hp) (ys:List V) (its:List Value) (k:Nat),i5 X' [(s2.heap.objs.size,{cls:= .type "list",data:= .seq its.toArray k})] σ' H' s'/\m7 ys its/\ys.length<=sizeLine/\tn i s'.heap/\(∀b∈fp,H' b=none)/\W i n ys σ' H')
     ?_ m0 ⟨0,_,H2,[],[],0,Dn I' (I2.hok.fresh (dz3 _)) _ hacc (fun v z=>by cases z),.nil,eb4 _,T.keep 0 _ _ st2 fun b hb o e=>old b o e,fun b hb=>(f2 b hb).1,w0⟩
   rintro n s3 ⟨i,σ3,H3,ys,its,k,I3,rv,hyl,st3,fr3,w3⟩;have pinD:=I3.pin (s2.heap.objs.size,{cls:= .type "list",data:= .seq its.toArray k}) (by rw[hX'pn];exact ea9 _ dz7)
   have stat:∀{o:Obj} {H':Hp},(∀b∈fp,H' b=none)->∀b∈fp,av9 X' [(s2.heap.objs.size,o)] H' b:=fun {o H'} hn b hb=>by
     refine ⟨hn b hb,by rw[hX'd];exact (below b (fplt b hb)).1,fun z=>ok'.exfs b (by rw[hX'ex];exact hb) z,.inl (by rw[hX'ex];exact hb),fun x c e=>by rw[hX'c] at e;exact (f2 b hb).2.2.2.2.1 x c (cellsSub x c e),fun p hp=> ?_⟩;rw[hX'pn] at hp
     have e:p=(s2.heap.objs.size,o):=by simpa using hp
     subst e
     exact fun z=>(below b (fplt b hb)).2 z.symm
   rcases turn i n ys σ3 H3 w3 with ⟨stop,qn⟩|⟨go,Nx,hNx,step⟩
   · have dn:=T.done X' hX'P hX'w hX'K hX'calm i _ s3 σ3 H3 (fun _ _=>False) I3 (stat fr3) st3 stop;rw[hX'A] at dn
     refine q0 dn fun r s4 ⟨hr,I4⟩=> ?_
     subst hr;have pinE:=I4.pin (s2.heap.objs.size,{cls:= .type "list",data:= .seq its.toArray k}) (by rw[hX'pn];exact ea9 _ dz7)
     have ub:Un (J6 X.stack) fp H2 H3 s2.heap s4.heap:=by
       have:=I4.base;rw[hX'fs,hX'ex,hX'H0,hX's0] at this;exact this
     have hok4:K5 X.prog X.w H3 s4.heap:=by have:=I4.hok;rw[hX'P,hX'w] at this;exact this
     have nD:∀b u,H3 b=some u->b≠s2.heap.objs.size:=fun b u e z=>by rw[z,pinE.2.1] at e;cases e
     have u2:Un (J6 X.stack) fp H2 (c9 H3 s2.heap.objs.size (.lst ys)) s2.heap s4.heap:=
       ⟨ub.keep,ub.slot,fun b o e n' hx=>by rw[g7 (ee3 (Heap.lt_size e))];exact ub.free b o e n' hx,ub.there,
         fun b xs e=>by have:=ub.tups b xs e;rw[g7 (nD b _ this)];exact this,fun b o u e=>by have:=ub.frzs b o u e;rw[g7 (nD b _ this)];exact this,
         fun b ps e=>by obtain ⟨more,z⟩:=ub.tbls b ps e;exact ⟨more,by rw[g7 (nD b _ z)];exact z⟩⟩
     have I5:i5 X pins σ (c9 H3 s2.heap.objs.size (.lst ys)) s4:=by
       refine I2.call' (by rw[I4.os,hX's0]) u2 ?_ I4.bare fun b hb=>⟨(f2 b hb).2.2.2.1,(f2 b hb).2.1,(f2 b hb).2.2.2.2.1,(f2 b hb).2.2.2.2.2⟩
       exact K5.track hok4 pinE.2.1 ⟨hyl,its,k,rv,pinE.1⟩
     refine hRR _ _ s4 _ I5 (qn _ pinE.2.1) (I2.fpOk hCle ?_) ?_
     · rw[g7 (Ne.symm hDC)];have:=I4.free;rw[hX'd] at this;exact this
     · obtain ⟨m,hn,_⟩:=I4.loc;rw[hX'd] at hn;exact ⟨m,hn⟩
   · have im:=T.item X' hX'P hX'w hX'K hX'calm i _ s3 σ3 H3 (fun _ _=>False) I3 (stat fr3) st3 go;rw[hX'A] at im
     refine q0 im fun r s4 ⟨u,hr,h4⟩=> ?_
     subst hr
     refine q0 h4 fun _ s5 ⟨x,H5,I5,r5,y5,st5,fr5⟩=> ?_
     have I5':=I5.pinned (stat fr5) (T.obj _ _ st5);have gg:=hg (J1 X.env scope.names []) HH.objs.size s2 H2 fp;rw[hXd] at gg;have gg:=gg _ s5 σ3 H5 x u _ I5' r5 (step x H5 y5);rw[hX'A,hX'P,hX'w,hX'xe,hX'env] at gg
     refine q0 gg fun _ s6 ⟨σ6,H6,I6,q6⟩=> ?_
     have tt:=ht (J1 X.env scope.names []) HH.objs.size s2 H2 fp;rw[hXd] at tt;have tt:=tt _ s6 σ6 H6 _ I6 q6;rw[hX'A,hX'P,hX'w,hX'xe,hX'env] at tt
     refine q0 tt fun ok7 s7 ⟨H7,I7,q7⟩=> ?_
     have again:∀{s8:Shared} {σ8:St} {H8:Hp} {ys8:List V} {its8:List Value} {k8:Nat},i5 X' ([(s2.heap.objs.size,{cls:= .type "list",data:= .seq its8.toArray k8})]++ag9 fp s5.heap) σ8 H8 s8->m7 ys8 its8->ys8.length<=sizeLine->Nx ys8 σ8 H8->
         ∃m,m < n/\∃(i:Nat) (σ':St) (H':Hp) (ys:List V) (its:List Value) (k:Nat),i5 X' [(s2.heap.objs.size,{cls:= .type "list",data:= .seq its.toArray k})] σ' H' s8/\m7 ys its/\ys.length<=sizeLine/\tn i s8.heap/\(∀b∈fp,H' b=none)/\W i m ys σ' H':=
       fun {s8 σ8 H8 ys8 its8 k8} I8 rv8 hl8 n8=>by
         obtain ⟨m',hm,w8⟩:=hNx ys8 σ8 H8 n8;refine ⟨m',hm,i+1,σ8,H8,ys8,its8,k8,I8.unpinned,rv8,hl8,T.keep _ _ _ st5 fun b hb o e=>(I8.pin (b,o) (ea9 _ (ea9 _ (af8 hb e)))).1,fun b hb=> ?_,w8⟩;obtain ⟨o,e,d⟩:=T.obj _ _ st5 b hb;exact (I8.pin (b,o) (ea9 _ (ea9 _ (af8 hb e)))).2.1
     cases ok7 with
     |false=>
      rw[if_neg eb1] at q7 ⊢;exact again I7 rv hyl q7
     |true=>
      rw[if_pos rfl] at q7 ⊢;have ee:=he (J1 X.env scope.names []) HH.objs.size s2 H2 fp;rw[hXd] at ee;have ee:=ee _ s7 σ6 H7 _ I7 q7;rw[hX'A,hX'P,hX'w,hX'xe,hX'env] at ee
      refine q0 ee fun yv s8 ⟨y,H8,I8,r8,hyl8,q8⟩=> ?_
      have pin8:=I8.pin (s2.heap.objs.size,{cls:= .type "list",data:= .seq its.toArray k}) (ea9 _ (ed9 _ dz7));refine wpAny_list_append_plain (items:=its.toArray) ⟨k,pin8.1⟩ (fun h9 hp9 hs9=> ?_) (by rw[ea6,<-rv.length];exact hyl);obtain ⟨k9,e9⟩:=hp9
      have I9:i5 X' (ag9 fp s5.heap) σ6 H8 s8:=I8.pins_of fun p hp=>I8.pin p (ea9 _ (ea9 _ hp))
      have I9':i5 X' (ag9 fp s5.heap) σ6 H8 {s8 with heap:=h9,toks:=s8.toks}:=by
        refine I9.turned (t':=s8.toks) (it:=s2.heap.objs.size) (fun b o hb e=>hs9.extBut b o hb e) pin8.2.1 (by rw[hX'd];exact hDC) (.inr (by rw[hX's0];exact dz3 _)) (fun x c e z=> ?_) fun p hp z=> ?_
        · rw[hX'c] at e;exact absurd (z▸cellLt x c (cellsSub x c e)) (ek3 _)
        · rw[hX'pn] at hp;obtain ⟨hb,_⟩:=bo1 (by simpa using hp);exact absurd (z▸fplt _ hb) (ek3 _)
      have e9':h9.get? s2.heap.objs.size=some {cls:= .type "list",data:= .seq (its++[yv]).toArray k9}:=by rw[e9];simp
      refine again (ys8:=ys++[y]) (its8:=its++[yv]) (k8:=k9) ?_ (m7.append rv (.cons r8 .nil)) (by rw[dz9];exact hyl8) q8
      refine I9'.pins_of fun p hp=> ?_
      rcases ea3.mp hp with z|z
      · have e:p=(s2.heap.objs.size,{cls:= .type "list",data:= .seq (its++[yv]).toArray k9}):=by simpa using z
        subst e;exact ⟨e9',pin8.2.1,pin8.2.2.1,pin8.2.2.2.1,fun v z=>by cases z⟩
      · exact I9'.pin p (ea9 _ z)
 exact codeAny_compStart_list (loop _ rfl) (T.self X.A 0 _ _ _ (T.keep 0 _ _ st2 fun b hb o e=>old b o e) (loop _ rfl))
end
end L2
namespace L2
local macro_rules|`(tactic|omega)=>`(tactic|lia)
open PySem PySem.Spec PyProof.Rows
section
variable {X:Cx}
theorem ba3 {elt tg iter:Expr}{ifs:List Expr}{scope:Scope}{pos:Pos}{wi:TI}{g:TG}{tc:TT}{te:TE}{N:List Str}{nl:Nat}{fr:List Nat}
   (hc:X.calm=true) (ok:aw4 X N nl fr scope) (hi:PI X tg iter wi) (hg:∀cl C s0 H0 ex,PG (X3 X N scope cl C s0 H0 ex) tg g) (ht:∀cl C s0 H0 ex,bv8 (X3 X N scope cl C s0 H0 ex) ifs tc)
   (he:∀cl C s0 H0 ex,PE (X3 X N scope cl C s0 H0 ex) elt te) (hs:∀x,foldedSetIterable iter X.env x=pure x:=by intro _;rfl):
   PE X (.ListComp elt [⟨tg,iter,ifs,0⟩] scope pos) (cj3 nl fr wi g tc te):=by
 intro pins s σ H Q I h
 have hclos:closureFor scope X.env=pure (J1 X.env scope.names []):=au9 fun p hp hf=>I.ok.has p.1 (ok.free p hp hf)
 rw[eval_ListComp];refine wpAny_comprehension_free (use:=none) rfl hs hclos ok.kind ok.names (bp4 (RR:=fun acc C=>compPost (model X.prog X.w) X.A X.xe none (EP X pins σ Q) acc C) hc hi hg ht he ok I h ?_);intro D C s' H' I' q f ⟨m,hn⟩;exact ⟨m,hn,fun h' hs'=>⟨.ref D,H',I'.turned (t':=s'.toks) (fun b o hb e=>hs'.extBut b o hb e) f.1 f.2.1 f.2.2.2.1 f.2.2.2.2.1 f.2.2.2.2.2,rfl,q⟩⟩
theorem ce6 {i:Nat}{y:Str}{py spos:Pos}{elt tg iter:Expr}{ifs:List Expr}{scope:Scope}{pos:Pos}{wi:TI}{g:TG}{tc:TT}{te:TE}{N:List Str}{nl:Nat}{fr:List Nat}
   (hN:X.N.Nodup) (hi':X.N[i]? =some y) (hx:Loc X.env.scope y)
   (hc:X.calm=true) (ok:aw4 X N nl fr scope) (hi:PI X tg iter wi) (hg:∀cl C s0 H0 ex,PG (X3 X N scope cl C s0 H0 ex) tg g) (ht:∀cl C s0 H0 ex,bv8 (X3 X N scope cl C s0 H0 ex) ifs tc)
   (he:∀cl C s0 H0 ex,PE (X3 X N scope cl C s0 H0 ex) elt te) (hsw:swapsWith (.ListComp elt [⟨tg,iter,ifs,0⟩] scope pos) (some (.Name y py)) spos.line X.env=pure true:=by rfl)
   (hs:∀x,foldedSetIterable iter X.env x=pure x:=by intro _;rfl)
   (hf:X.fn y=true\/X.env.scope.names.lookup y=some .local:=by first|exact .inl rfl|exact .inr rfl|assumption):
   PS X (.Assign [.Name y py] (.ListComp elt [⟨tg,iter,ifs,0⟩] scope pos) spos) (ci4 (cj3 nl fr wi g tc te) (bt0 i)):=by
 intro pins s σ H Dn I h
 have hclos:closureFor scope X.env=pure (J1 X.env scope.names []):=au9 fun p hp hf=>I.ok.has p.1 (ok.free p hp hf)
 rw[exec_Assign_Name_used _ _ _ _ hsw];refine wpAny_bind (wpAny_standAt (wpAny_bind ?_));show wpAny _ X.A (do let _ <-comprehension (.ListComp elt [⟨tg,iter,ifs,0⟩] scope pos) scope X.env _ (newList []) false (eval iter X.env) (some (assign (.Name y py) X.env))) _ _ s
 refine wpAny_bind (wpAny_mono (wpAny_comprehension_free (use:=some (assign (.Name y py) X.env)) (Q:=fun _ s'=>SP X pins Dn .next s') rfl hs hclos ok.kind ok.names
   (bp4 (RR:=fun acc C=>compPost (model X.prog X.w) X.A X.xe (some (assign (.Name y py) X.env)) (fun _ s'=>SP X pins Dn .next s') acc C) hc hi hg ht he ok I h ?_)) (fun _ s' hq=>wpAny_pure (wpAny_pure hq)) fun _ _ e=>e)
 intro D C s' H' I' q f ⟨m,hn⟩;show wpAny _ X.A (assign (.Name y py) X.env (.ref D)) _ _ _;refine wpAny_assign_Name (bn9 I' hN hi' hx (v:= .ref D) rfl (fun s2 I2 ⟨a,sb,ha⟩=> ?_) hf)
 have hCa:C≠a:=by
   rcases ha with z|z
   · rw[z];exact f.2.1
   · exact fun e=>f.2.2.2.2.1 _ _ z e.symm
 exact ⟨m,hn.sameBut sb hCa,fun h' hs'=>⟨_,H',I2.turned (t':=s2.toks) (fun b o hb e=>hs'.extBut b o hb e) f.1 f.2.1 f.2.2.2.1 f.2.2.2.2.1 f.2.2.2.2.2,q⟩⟩
theorem bp5 {K:PySem.W.Frag}{a:Addr}{xs:List V}{g:TG}{tc:TT}{te:TE}{σ0:St}{H:Hp}{Q:VK}(Pv:Nat->List V->St->Hp->Prop)(h0:Pv 0 [] σ0 H)(hl:∀i ys σ H,i<=xs.length->Pv i ys σ H->h8 K H a xs)
   (hs:∀i x ys σ H,xs[i]? =some x->Pv i ys σ H->g x σ H fun σ2 H2=>tc σ2 H2 fun b H4=>if b=true then te σ2 H4 fun y H5=>ys.length < sizeLine/\Pv (i+1) (ys++[y]) σ2 H5 else Pv (i+1) ys σ2 H4)
   (hd:∀ys σ H,Pv xs.length ys σ H->∀D,H D=none->Q (.ref D) (c9 H D (.lst ys))):
   bt4 (Itl K a) g tc te Q σ0 H:=by
 refine ⟨fun i m ys σ H=>m=xs.length - i/\i<=xs.length/\Pv i ys σ H,⟨xs.length,by simp,eb4 _,h0⟩,?_⟩;rintro i m ys σ H ⟨rfl,hi,p⟩;have q:=hl i ys σ H hi p
 by_cases hlt:i < xs.length
 · refine .inr ⟨⟨xs,xs[i],q,by simp [hlt]⟩,Pv (i+1),fun ys' σ' H' p'=>⟨xs.length - (i+1),by omega,rfl,hlt,p'⟩,fun x H' y=> ?_⟩;obtain ⟨e,y⟩:=y;subst e;exact hs i x ys σ _ (y xs q) p
 · have e:i=xs.length:=by omega
   subst e;exact .inl ⟨⟨xs,q,dz3 _⟩,hd ys σ H p⟩
theorem aq9 {lo:Int}{n:Nat}{g:TG}{tc:TT}{te:TE}{σ0:St}{H:Hp}{Q:VK}(Pv:Nat->List V->St->Hp->Prop)(h0:Pv 0 [] σ0 H)
   (hs:∀i ys σ H,i < n->Pv i ys σ H->g (.int (lo+i)) σ H fun σ2 H2=>tc σ2 H2 fun b H4=>if b=true then te σ2 H4 fun y H5=>ys.length < sizeLine/\Pv (i+1) (ys++[y]) σ2 H5 else Pv (i+1) ys σ2 H4)
   (hd:∀ys σ H,Pv n ys σ H->∀D,H D=none->Q (.ref D) (c9 H D (.lst ys))):
   bt4 (Itr lo n) g tc te Q σ0 H:=by
 refine ⟨fun i m ys σ H=>m=n - i/\i<=n/\Pv i ys σ H,⟨n,by simp,eb4 _,h0⟩,?_⟩;rintro i m ys σ H ⟨rfl,hi,p⟩
 by_cases hlt:i < n
 · refine .inr ⟨hlt,Pv (i+1),fun ys' σ' H' p'=>⟨n - (i+1),by omega,rfl,hlt,p'⟩,fun x H' y=> ?_⟩;obtain ⟨e,y⟩:=y;subst e y;exact hs i ys σ _ hlt p
 · have e:i=n:=by omega
   subst e;exact .inl ⟨dz3 _,hd ys σ H p⟩
inductive EqD (K:PySem.W.Frag)(H:Hp):Nat->V->V->Bool->Prop where
 |flat {n:Nat} {x y:V}:O9 x=true->O9 y=true->EqD K H n x y (Z9 x y)
 |same {n:Nat} (a:Addr):EqD K H n (.ref a) (.ref a) true
 |lists {n:Nat} {a b:Addr} {xs ys:List V} (e:Nat->Bool):a≠b->h8 K H a xs->h8 K H b ys->xs.length=ys.length->(∀(j:Nat) x y,xs[j]? =some x->ys[j]? =some y->EqD K H n x y (e j))->EqD K H (n+1) (.ref a) (.ref b) ((ed0 xs.length).all e)
 |lens {n:Nat} {a b:Addr} {xs ys:List V}:a≠b->h8 K H a xs->h8 K H b ys->xs.length≠ys.length->EqD K H (n+1) (.ref a) (.ref b) false
theorem bw0 {pins:List (Addr×Obj)}{σ:St}{H:Hp}{s:Shared}(I:i5 X pins σ H s){n:Nat}{x y:V}{b:Bool}(d:EqD X.K H n x y b):
   ∀{A:Around} {u v:Value},A.units+n < cLine->o5 x u->o5 y v->SeqAt.EqAt A s u v b:=by
 induction d with
 |flat fx fy=>intro A u v _ rx ry;exact cn4 rx ry fx fy
 |same a=>intro A u v _ rx ry;cases rx;cases ry;exact SeqAt.EqAt.same _
 |@lists n a c xs ys e ne ha hb hl _ ih=>
  intro A u v hu rx ry;cases rx;cases ry;obtain ⟨its,r1,p1,_⟩:=I.list ha;obtain ⟨its2,r2,p2,_⟩:=I.list hb;have l1:=r1.length;have l2:=r2.length;refine SeqAt.EqAt.of_refs ne ?_
  have q:=SeqAt.RcAt.lists (A:=A) (e:=e) p1.isList p2.isList (by rw[ea6,ea6];omega) (by omega) (fun j h1 h2=>by
    have h1':j < its.length:=by simpa using h1
    have h2':j < its2.length:=by simpa using h2
    have e1:xs[j]? =some (xs[j]'(by omega)):=dz1 _;have e2:ys[j]? =some (ys[j]'(by omega)):=dz1 _;obtain ⟨u1,z1,q1⟩:=r1.get e1;obtain ⟨u2,z2,q2⟩:=r2.get e2
    have w1:its.toArray[j]=u1:=by
      rw[dz1 h1'] at z1
      simpa using z1
    have w2:its2.toArray[j]=u2:=by
      rw[dz1 h2'] at z2
      simpa using z2
    rw[w1,w2]
    exact ih j _ _ e1 e2 (by show A.in1.units+n < cLine;have:A.in1.units=A.units+1:=by first|rfl|simp [Around.in1]
                             omega) q1 q2)
  rw[ea6,<-l1] at q;exact q
 |lens ne ha hb hl=>
  intro A u v hu rx ry;cases rx;cases ry;obtain ⟨its,r1,p1,_⟩:=I.list ha;obtain ⟨its2,r2,p2,_⟩:=I.list hb;have l1:=r1.length;have l2:=r2.length;exact SeqAt.EqAt.of_refs ne (SeqAt.RcAt.lists_lengths p1.isList p2.isList (by rw[ea6,ea6];simp;omega) (by omega))
def LEq (K:PySem.W.Frag)(H:Hp)(n:Nat)(xs ys:List V)(r:Bool):Prop:=
 (xs.length≠ys.length/\r=false)\/(∃e:Nat->Bool,xs.length=ys.length/\(∀(j:Nat) x y,xs[j]? =some x->ys[j]? =some y->EqD K H n x y (e j))/\r=(ed0 xs.length).all e)
theorem bw2 {pins:List (Addr×Obj)}{σ:St}{H:Hp}{s:Shared}(I:i5 X pins σ H s){A:Around}{n:Nat}{a b:Addr}{xs ys:List V}{r:Bool}(hu:A.units+n+1 < cLine)(ha:h8 X.K H a xs)(hb:h8 X.K H b ys)(d:LEq X.K H n xs ys r):
   SeqAt.RcAt A s (.ref a) (.ref b) r:=by
 obtain ⟨its,r1,p1,_⟩:=I.list ha;obtain ⟨its2,r2,p2,_⟩:=I.list hb;have l1:=r1.length;have l2:=r2.length
 rcases d with ⟨hl,rfl⟩|⟨e,hl,he,rfl⟩
 · exact SeqAt.RcAt.lists_lengths p1.isList p2.isList (by rw[ea6,ea6];simp;omega) (by omega)
 · have q:=SeqAt.RcAt.lists (A:=A) (e:=e) p1.isList p2.isList (by rw[ea6,ea6];omega) (by omega) (fun j h1 h2=>by
     have h1':j < its.length:=by simpa using h1
     have h2':j < its2.length:=by simpa using h2
     have e1:xs[j]? =some (xs[j]'(by omega)):=dz1 _;have e2:ys[j]? =some (ys[j]'(by omega)):=dz1 _;obtain ⟨u1,z1,q1⟩:=r1.get e1;obtain ⟨u2,z2,q2⟩:=r2.get e2
     have w1:its.toArray[j]=u1:=by
       rw[dz1 h1'] at z1
       simpa using z1
     have w2:its2.toArray[j]=u2:=by
       rw[dz1 h2'] at z2
       simpa using z2
     rw[w1,w2]
     exact bw0 I (he j _ _ e1 e2) (by show A.in1.units+n < cLine;have:A.in1.units=A.units+1:=by first|rfl|simp [Around.in1]
                                      omega) q1 q2)
   rw[ea6,<-l1] at q;exact q
end
end L2
namespace L2
local macro_rules|`(tactic|omega)=>`(tactic|lia)
open PySem PySem.Spec PyProof.Rows
section
variable {X:Cx}
theorem cw2 {pins:List (Addr×Obj)}{σ:St}{H:Hp}{s:Shared}(I:i5 X pins σ H s){A:Around}{n:Nat}{a b:Addr}{xs ys:List V}{r:Bool}(hu:A.units+n+1 < cLine)(ha:h8 X.K H a xs)(hb:h8 X.K H b ys)(d:LEq X.K H n xs ys r):
   SeqAt.RcNeAt A s (.ref a) (.ref b) (!r):=by
 obtain ⟨its,r1,p1,_⟩:=I.list ha;obtain ⟨its2,r2,p2,_⟩:=I.list hb;have l1:=r1.length;have l2:=r2.length
 rcases d with ⟨hl,rfl⟩|⟨e,hl,he,rfl⟩
 · exact SeqAt.RcNeAt.lists_lengths p1.isList p2.isList (by rw[ea6,ea6];simp;omega) (by omega)
 · have q:=SeqAt.RcNeAt.lists (A:=A) (e:=e) p1.isList p2.isList (by rw[ea6,ea6];omega) (by omega) (fun j h1 h2=>by
     have h1':j < its.length:=by simpa using h1
     have h2':j < its2.length:=by simpa using h2
     have e1:xs[j]? =some (xs[j]'(by omega)):=dz1 _;have e2:ys[j]? =some (ys[j]'(by omega)):=dz1 _;obtain ⟨u1,z1,q1⟩:=r1.get e1;obtain ⟨u2,z2,q2⟩:=r2.get e2
     have w1:its.toArray[j]=u1:=by
       rw[dz1 h1'] at z1
       simpa using z1
     have w2:its2.toArray[j]=u2:=by
       rw[dz1 h2'] at z2
       simpa using z2
     rw[w1,w2]
     exact bw0 I (he j _ _ e1 e2) (by show A.in1.units+n < cLine;have:A.in1.units=A.units+1:=by first|rfl|simp [Around.in1]
                                      omega) q1 q2)
   rw[ea6,<-l1] at q;exact q
def cw3 (K:PySem.W.Frag)(n:Nat)(neg:Bool):R2:=fun x y H Q=>∃a b xs ys r,x= .ref a/\y= .ref b/\h8 K H a xs/\h8 K H b ys/\LEq K H n xs ys r/\Q (.bl (if neg then !r else r)) H
theorem an8 (n:Nat)(hu:X.A.units+n+1 < cLine):P1 X (compareOp .Eq) (cw3 X.K n false):=by
 intro pins s σ H x y v u Q I rx ry h;obtain ⟨a,b,xs,ys,r,rfl,rfl,ha,hb,d,q⟩:=h;cases rx;cases ry;exact bw2 I hu ha hb d _ _ _ _ ⟨.bl r,H,I,rfl,q⟩
theorem an9 (n:Nat)(hu:X.A.units+n+1 < cLine):P1 X (compareOp .NotEq) (cw3 X.K n true):=by
 intro pins s σ H x y v u Q I rx ry h;obtain ⟨a,b,xs,ys,r,rfl,rfl,ha,hb,d,q⟩:=h;cases rx;cases ry;exact cw2 I hu ha hb d _ _ _ _ ⟨.bl (!r),H,I,rfl,q⟩
theorem av0 {n:Nat}{e:Nat->Bool}:(ed0 n).all e=true↔∀j,j < n->e j=true:=by
 rw[ei2];exact ⟨fun h j hj=>h j (ed1.mpr hj),fun h j hj=>h j (ed1.mp hj)⟩
theorem M7 (K:PySem.W.Frag)(H:Hp)(n:Nat)(ns ms:List Int):LEq K H n (ns.map V.int) (ms.map V.int) (decide (ns=ms)):=by
 by_cases hl:ns.length=ms.length
 · refine .inr ⟨fun j=>decide (ns[j]? =ms[j]?),by simpa using hl,fun j x y e1 e2=> ?_,?_⟩
   · rw[dz4] at e1 e2
     cases h1:ns[j]? with
     |none=>rw[h1] at e1;cases e1
     |some a=>
      cases h2:ms[j]? with
      |none=>rw[h2] at e2;cases e2
      |some b=>
       rw[h1] at e1;rw[h2] at e2;cases e1;cases e2;have q:EqD K H n (V.int a) (V.int b) (Z9 (V.int a) (V.int b)):= .flat rfl rfl
       have e:Z9 (V.int a) (V.int b)=decide (some a=some b):=by
         show (a==b)=_
         by_cases z:a=b
         · subst z;simp
         · rw[decide_eq_false (fun w=>z (Option.some.inj w))];simpa using z
       rw[e] at q;show EqD K H n _ _ (decide (ns[j]? =ms[j]?));rw[h1,h2];exact q
   · rw[el8,decide_eq_true_iff,av0];constructor
     · intro h j _;subst h;simp
     · intro h
       refine ed7 fun j=> ?_
       by_cases hj:j < ns.length
       · exact of_decide_eq_true (h j (by simpa using hj))
       · rw[ea5 (by omega),ea5 (by omega)]
 · refine .inl ⟨by simpa using hl,?_⟩
   exact decide_eq_false fun h=>hl (by rw[h])
theorem cc7:X7 X (.type "range") (fun xs H Q=>∃j,xs=[.int j]/\∀p,H p=none->Q (.ref p) (c9 H p (.rng 0 j))):=by
 intro pins s σ H xs us Q I r h;obtain ⟨j,rfl,q⟩:=h;obtain ⟨u,rfl,⟨t,rfl⟩⟩:=aq1 r;refine call_range_1 ⟨.ref s.heap.objs.size,_,I.laid (fun b o e=>Heap.get?_push_of_some _ e) (dz3 _) ?_,rfl,q _ (I.hok.fresh (dz3 _))⟩;exact ⟨_,_,_,Heap.get?_push_size _ rfl⟩
def ab7 (lo:Int)(n:Nat):List Int:=(ed0 n).map fun (i:Nat)=>lo+(i:Int)
theorem cj4 {lo:Int}{n:Nat}{acc:Array Value}(h:ItemsOf (fun i v=>∃t,v=Value.int (lo+(i:Int)*1) t) acc n):m7 ((ab7 lo n).map V.int) acc.toList:=by
 obtain ⟨hs,hv⟩:=h
 have key:∀(l:List Value) (k:Nat),(∀(j:Nat) v,l[j]? =some v->∃t,v=Value.int (lo+((k+j:Nat):Int)) t)->m7 (((ed0 l.length).map fun (i:Nat)=>lo+((k+i:Nat):Int)).map V.int) l:=by
   intro l
   induction l with
   |nil=>intro k _;exact .nil
   |cons v r ih=>
    intro k hk
    have e:(((ed0 r.length).map Nat.succ).map fun (i:Nat)=>lo+((k+i:Nat):Int))=(ed0 r.length).map fun (i:Nat)=>lo+((k+1+i:Nat):Int):=by
      rw[ee4]
      refine ef3 fun i _=> ?_
      show lo+((k+(i+1):Nat):Int)=_
      congr 2;omega
    rw[ee9,List.range_succ_eq_map,ed3,ed3,e];refine .cons ?_ ?_
    · obtain ⟨t,e⟩:=hk 0 v rfl;exact ⟨t,e⟩
    · have:=ih (k+1) fun j w e=>by
        obtain ⟨t,z⟩:=hk (j+1) w (by simpa using e);exact ⟨t,by rw[z];congr 2;omega⟩
      exact this
 have:=key acc.toList 0 fun j v e=>by
   obtain ⟨t,z⟩:=hv j v (by simpa using e);exact ⟨t,by rw[z,Int.mul_one];simp⟩
 have hl:acc.toList.length=n:=by simpa using hs
 rw[hl] at this
 have e:((ed0 n).map fun (i:Nat)=>lo+((0+i:Nat):Int))=ab7 lo n:=by
   unfold ab7
   refine ef3 fun i _=> ?_
   simp
 rw[e] at this;exact this
theorem bs1 (hc:X.calm=true):X7 X (.type "list") (fun xs H Q=>∃p lo hi,xs=[.ref p]/\H p=some (.rng lo hi)/\(-(2^62)<=lo/\lo < 2^62/\ -(2^62)<=hi/\hi < 2^62)/\(hi - lo).toNat<=2^20/\
   ∀l,H l=none->Q (.ref l) (c9 H l (.lst ((ab7 lo (hi - lo).toNat).map V.int)))):=by
 intro pins s σ H xs us Q I r h;obtain ⟨p,lo,hi,rfl,hp,⟨b1,b2,b3,b4⟩,hz,q⟩:=h;obtain ⟨u,rfl,rx⟩:=aq1 r;cases rx;obtain ⟨t,u,v,ho⟩:=I.hok p _ hp
 refine call_list_range (n:=(hi - lo).toNat) (I.ok.hd hc) (r:=p) ho (small_one b1 b2 b3 b4) (by rw[rangeSize_one];split<;>omega) (ea4 hz (by decide)) fun h' tk acc' c' hk e it=> ?_
 have rv:=cj4 it;refine ⟨.ref s.heap.objs.size,_,I.laid hk (dz3 _) (show B9 X.prog X.w _ h' _ (.lst ((ab7 lo (hi - lo).toNat).map V.int)) from ⟨?_,acc'.toList,c',rv,by rw[e]⟩),rfl,q _ (I.hok.fresh (dz3 _))⟩;unfold ab7;rw[dz0,dz0,ec5];exact ea4 hz (by rw[sizeLine_eq];decide)
theorem co4 (hc:X.calm=true):X7 X (.builtin "sum") (fun xs H Q=>∃(p:Addr) (ns:List Int),xs=[.ref p]/\h8 X.K H p (ns.map V.int)/\Q (.int ns.sum) H):=by
 intro pins s σ H xs us Q I r h;obtain ⟨p,ns,rfl,hp,q⟩:=h;obtain ⟨u,rfl,rx⟩:=aq1 r;cases rx;obtain ⟨its,rv,pl,_⟩:=I.list hp;have ia:=bg7 rv;obtain ⟨xs,hxs⟩:=ia.allInts.items;have hn:=ia.numsOf
 have hxl:its=(intItems xs).toList:=by rw[<-hxs]
 rw[hxl,nums_intItems] at hn;have hl:=pl.isList;rw[hxs] at hl
 refine sum_intListG (I.ok.hd hc) hl fun h' tk t' hk=>⟨.int ns.sum,H,I.kept hk,?_,q⟩
 rw[preSum_eq,ej5 (by simp),hn];exact ⟨_,rfl⟩
end
end L2
namespace L2
local macro_rules|`(tactic|omega)=>`(tactic|lia)
open PySem PySem.Spec PyProof.Rows
section
variable {X:Cx}
theorem cw4:X7 X (.builtin "isinstance") (fun xs H Q=>∃x n t b,xs=[x,.ty n]/\Y0 X.K H x t/\PySem.W.kitOne X.K t (.type n)=some b/\Q (.bl b) H):=by
 intro pins s σ H xs us Q I r h;obtain ⟨x,n,t,b,rfl,ty,e,q⟩:=h;obtain ⟨u,w',rfl,rx,ry⟩:=bt3 r;cases (show w'=Value.type n from ry)
 exact cn2 I rx ty e fun tk=>⟨.bl b,H,I.tok tk,rfl,q⟩
theorem Y4 (K:PySem.W.Frag)(n:String):PySem.W.kitOne K (.type n) (.type n)=some true:=by
 unfold PySem.W.kitOne;rw[if_pos (beq_self_eq_true _)]
theorem V1 (K:PySem.W.Frag):PySem.W.kitOne K (.type "int") (.type "bool")=some false:=by
 unfold PySem.W.kitOne PySem.W.kitCls;rw[if_neg (by decide+kernel)];show (if PySem.W.kitMeta "bool"=true then (fastBuiltinMro "int").map (·.contains (Value.type "bool")) else none)=some false;rw[if_pos (by decide+kernel)]
 decide+kernel
theorem cw5:bootBuiltins "int"=some (.type "int"):=by decide+kernel
theorem co5:bootBuiltins "bool"=some (.type "bool"):=by decide+kernel
theorem ar0:bootBuiltins "list"=some (.type "list"):=by decide+kernel
theorem cc8:bootBuiltins "range"=some (.type "range"):=by decide+kernel
theorem bw3:bootBuiltins "isinstance"=some (.builtin "isinstance"):=by decide+kernel
theorem co6:bootBuiltins "sum"=some (.builtin "sum"):=by decide+kernel
theorem co7:bootBuiltins "min"=some (.builtin "min"):=by decide+kernel
theorem co8:bootBuiltins "max"=some (.builtin "max"):=by decide+kernel
end
def j5 (a:Addr)(H H':Hp):Prop:=∀b o,H b=some o->b≠a->H' b=some o
theorem j5.refl (a:Addr)(H:Hp):j5 a H H:=fun _ _ h _=>h
theorem j5.trans {a:Addr}{H H1 H2:Hp}(x:j5 a H H1)(y:j5 a H1 H2):j5 a H H2:=fun b o h n=>y b o (x b o h n) n
theorem e8.but {H H':Hp}(a:Addr)(s:e8 H H'):j5 a H H':=fun b o h _=>s b o h
theorem e8.upd_new {H:Hp}{p:Addr}{o:HO}(h:H p=none):e8 H (c9 H p o):=fun b u e=>by rw[g7 (g8 e h)];exact e
theorem j5.upd {H:Hp}{a:Addr}{o:HO}:j5 a H (c9 H a o):=fun b u e n=>by rw[g7 n];exact e
theorem e8.upd_r {H H':Hp}{p:Addr}{o:HO}(s:e8 H H')(h:H p=none):e8 H (L2.c9 H' p o):=fun b u e=>by rw[g7 (g8 e h)];exact s b u e
theorem j5.upd_r {a:Addr}{H H':Hp}{p:Addr}{o:HO}(k:j5 a H H')(h:H p=none):j5 a H (L2.c9 H' p o):=fun b u e n=>by rw[g7 (g8 e h)];exact k b u e n
theorem j5.upd_a {a:Addr}{H H':Hp}{o:HO}(k:j5 a H H'):j5 a H (L2.c9 H' a o):=fun b u e n=>by rw[g7 n];exact k b u e n
end L2
namespace L2
local macro_rules|`(tactic|omega)=>`(tactic|lia)
open PySem PySem.Spec PyProof.Rows
def n0 (P:Program)(w:World)(K:PySem.W.Frag)(mg:Str->Option Value)(base:Heap)(x:Str)(k:Nat)(ps:List Str)(sp:Sp):Prop:=
 ∃(f:Addr) (fd:FuncData),mg x=some (.ref f)/\PySem.W.keepIn K (.ref f)=true/\af9 K fd ps []/\n6 P w K mg base E9 k f fd ps sp
section
variable {X:Cx} {x:Str} {p pos:Pos} {e:Expr} {es:List Expr} {t:TA} {k:Nat} {ps:List Str} {sp:Sp}
theorem i8 (c:n0 X.prog X.w X.K X.mg X.base x k ps sp)(hr:l9 k X.A)(ha:PA X (e::es) t)(hg:Gl X x:=by rfl)(hdb:(x==("__debug__":Str))=false:=by decide)
   (he:starEach (e::es) X.env=(false,eval e X.env)::starEach es X.env:=by rfl) (hpl:(backTo pos (starEach es X.env)).any (·.1)=false:=by rfl):
   PE X (.Call (.Name x p) (e::es) [] pos) (bg6 sp [] E0 t):=by
 obtain ⟨f,fd,h1,h2,h3,h4⟩:=c;exact ce3 h4 hr hg h1 h2 h3 .nil dq5 ha hdb he hpl
theorem ao0 {a b:Expr}{ta:TA}(hm:X.mg "isinstance"=none)(ha:PA X [a,b] ta)(hg:Gl X "isinstance":=by rfl)
   (he:starEach [a,b] X.env=(false,eval a X.env)::starEach [b] X.env:=by rfl) (hpl:(backTo pos (starEach [b] X.env)).any (·.1)=false:=by rfl):
   PE X (.Call (.Name "isinstance" p) [a,b] [] pos) (tCB (fun xs H Q=>∃x n t b,xs=[x,.ty n]/\Y0 X.K H x t/\PySem.W.kitOne X.K t (.type n)=some b/\Q (.bl b) H) ta):=
 Y1 cw4 hg hm bw3 ha (by decide) (by decide) he hpl
theorem bw4 (hm:X.mg "int"=none)(hg:Gl X "int":=by rfl):PE X (.Name "int" p) (tC (.ty "int")):=az8 hg hm cw5 rfl
theorem bp6 (hm:X.mg "bool"=none)(hg:Gl X "bool":=by rfl):PE X (.Name "bool" p) (tC (.ty "bool")):=az8 hg hm co5 rfl
theorem bp7 (hm:X.mg "list"=none)(hg:Gl X "list":=by rfl):PE X (.Name "list" p) (tC (.ty "list")):=az8 hg hm ar0 rfl
theorem x6 (hm:X.mg "len"=none)(ha:PA X [e] t)(hg:Gl X "len":=by rfl)
   (he:starEach [e] X.env=(false,eval e X.env)::starEach [] X.env:=by rfl):PE X (.Call (.Name "len" p) [e] [] pos) (tCB (fun xs H Q=>∃p ys,xs=[.ref p]/\(h8 X.K H p ys\/O3 X.K H p ys)/\Q (.int ys.length) H) t):=
 Y1 bv3 hg hm PySem.boot_len ha (by decide) (by decide) he rfl
end
end L2
namespace Mth
local macro_rules|`(tactic|omega)=>`(tactic|lia)
structure y7 (p:List Int):Prop where
 nd:p.Nodup
 lo:∀x∈p,0<=x
 hi:∀x∈p,x < p.length
theorem bd4 {n:Nat}{x:Int}:x∈L2.ab7 0 n↔0<=x/\x < n:=by
 unfold L2.ab7;rw[ea2];constructor
 · rintro ⟨i,hi,rfl⟩;have:=ed1.mp hi;omega
 · rintro ⟨h1,h2⟩;exact ⟨x.toNat,ed1.mpr (by omega),by omega⟩
theorem al3 (lo:Int)(n:Nat):(L2.ab7 lo n).length=n:=by
 unfold L2.ab7;rw[dz0,ec5]
theorem cj5 (n:Nat):(L2.ab7 0 n).Nodup:=by
 unfold L2.ab7;rw[ea7,ei3];exact List.Pairwise.imp (fun {a b} (h:a < b)=>by omega) ep5
theorem bc5 {p:List Int}{n:Nat}(h:p.Perm (L2.ab7 0 n)):y7 p/\p.length=n:=by
 have hl:p.length=n:=by rw[h.length_eq,al3]
 refine ⟨⟨h.nodup_iff.mpr (cj5 n),fun x hx=>(bd4.mp (h.mem_iff.mp hx)).1,fun x hx=> ?_⟩,hl⟩;have:=(bd4.mp (h.mem_iff.mp hx)).2;omega
theorem bs2:∀(n:Nat) (p:List Nat),p.Nodup->(∀x∈p,x < n)->p.length=n->p.Perm (ed0 n):=by
 intro n
 induction n with
 |zero=>intro p _ _ hl;rw[List.eq_nil_of_length_eq_zero hl];exact List.Perm.refl _
 |succ n ih=>
  intro p nd hb hl
  by_cases hn:n∈p
  · obtain ⟨s,t,rfl⟩:=List.append_of_mem hn;have pm:(s++n::t).Perm (n::(s++t)):=List.perm_middle;have nd':=pm.nodup_iff.mp nd;obtain ⟨h1,h2⟩:=ed6.mp nd'
    have:=ih (s++t) h2 (fun x hx=>by
      have hx':x < n+1:=hb x (pm.mem_iff.mpr (ea0 _ hx))
      have:x≠n:=fun e=>h1 (e▸hx)
      omega) (by rw[dz9,ee9] at hl;rw[dz9];omega)
    refine pm.trans ?_;rw[ej6];exact (List.Perm.cons n this).trans (eh4 (l₁:=[n]))
  · exfalso
    have hlt:∀x∈p,x < n:=fun x hx=>by
      have h1:=hb x hx
      have:x≠n:=fun e=>hn (e▸hx)
      omega
    match p,nd,hl,hlt with
    |[],_,hl,_=>simp at hl
    |y::q,nd,hl,hlt=>
     obtain ⟨h1,h2⟩:=ed6.mp nd;have hq:=ih q h2 (fun x hx=>hlt x (ea0 _ hx)) (by simpa using hl);have hy:=hlt y dz7;exact h1 (hq.mem_iff.mpr (ed1.mpr hy))
theorem y7.perm {p:List Int}(h:y7 p):p.Perm (L2.ab7 0 p.length):=by
 have e:(p.map en5).map (fun (i:Nat)=>(0:Int)+(i:Int))=p:=by
   rw[ee4]
   conv=>rhs;rw[<-en6 p]
   refine ef3 fun x hx=> ?_
   have:=h.lo x hx;show (0:Int)+((x.toNat:Nat):Int)=x;omega
 have nd:(p.map en5).Nodup:=by
   rw[ea7,ei3];have:=ea7.mp h.nd;refine List.Pairwise.imp_of_mem (fun {a b} ha hb hne z=>hne ?_) this;have h1:=h.lo a ha;have h2:=h.lo b hb;omega
 have:=bs2 p.length (p.map en5) nd (fun x hx=>by
   obtain ⟨y,hy,rfl⟩:=ea2.mp hx;have h1:=h.lo y hy;have h2:=h.hi y hy
   omega) (by rw[dz0])
 have q:=this.map (fun (i:Nat)=>(0:Int)+(i:Int));rw[e] at q;exact q
def G1 (fs:List Int)(u:Int):Option Int:=fs[u.toNat]?
theorem bw5 (fs:List Int):(L2.ab7 0 fs.length).map (G1 fs)=fs.map some:=by
 unfold L2.ab7;rw[ee4]
 refine ed7 fun j=> ?_
 rw[dz4,dz4]
 by_cases hj:j < fs.length
 · rw[ed8 hj,dz1 hj];show some (fs[((0:Int)+(j:Int)).toNat]?)=_
   have:((0:Int)+(j:Int)).toNat=j:=by omega
   rw[this,dz1 hj];rfl
 · rw[ea5 (by rw[ec5];omega),ea5 (by omega)];rfl
theorem co9 {a b:List Int}(h:(a.map some).Perm (b.map some)):a.Perm b:=by
 have:=h.map (fun o:Option Int=>o.getD 0);rw[ee4,ee4] at this
 have e:∀l:List Int,l.map ((fun o:Option Int=>o.getD 0)∘some)=l:=fun l=>by
   conv=>rhs;rw[<-en6 l]
   rfl
 rw[e,e] at this;exact this
theorem bh3 {fs ts qs:List Int}(ht:y7 ts)(hl:fs.length=ts.length)(h:ts.map (G1 fs)=qs.map some):fs.Perm qs:=by
 refine co9 ?_;have h1:=ht.perm.map (G1 fs);rw[<-hl,bw5,h] at h1;exact h1.symm
end Mth
namespace L2
local macro_rules|`(tactic|omega)=>`(tactic|lia)
open PySem PySem.Spec PyProof.Rows
theorem aw4.of {X:Cx}{N:List Str}{nl:Nat}{fr:List Nat}{scope:Scope}(h1:(scope.names.all fun y=>y.2 != .cell)=true:=by rfl)(h2:scope.kind= .function:=by rfl)
   (h3:(scope.names.all fun y=>y.2 != .local||scope.names.lookup y.1==some .local)=true:=by rfl)
   (h4:(scope.names.all fun p=>p.2 != .free||(X.env.kindOf p.1==some .cell||X.env.kindOf p.1==some .free))=true:=by rfl) (h5:N.length=nl+fr.length:=by rfl)
   (h6:((ed0 fr.length).all fun k=>match fr[k]? with
     |some j=>(match N[nl+k]?,X.N[j]? with
      |some y,some z=>y==z&&(X.env.scope.names.lookup y==some .local||X.env.scope.names.lookup y==some .cell||X.env.scope.names.lookup y==some .free)&&scope.names.lookup y==some .free
      |_,_=>false)
     |none=>false)=true:=by rfl):aw4 X N nl fr scope where
 cell:=fun y hy e=>by
   have:=ei2.mp h1 y hy;rw[e] at this;exact absurd this (by decide)
 kind:=h2
 names:=fun y hy e=>by
   have:=ei2.mp h3 y hy;rw[e] at this
   have q:(scope.names.lookup y.1==some NameKind.local)=true:=by simpa using this
   exact eq_of_beq q
 free:=fun p hp e=>by
   have:=ei2.mp h4 p hp;rw[e] at this
   have q:(X.env.kindOf p.1==some NameKind.cell||X.env.kindOf p.1==some NameKind.free)=true:=by simpa using this
   rcases eq4 _ _|>.mp q with z|z
   · exact .inl (eq_of_beq z)
   · exact .inr (eq_of_beq z)
 len:=h5
 fr:=fun k j e=>by
   have hk:k < fr.length:=(dz2.mp e).1;have:=ei2.mp h6 k (ed1.mpr hk);rw[e] at this
   dsimp only at this
   cases e1:N[nl+k]? with
   |none=>rw[e1] at this;cases this
   |some y=>
    cases e2:X.N[j]? with
    |none=>rw[e1,e2] at this;cases this
    |some z=>
     rw[e1,e2] at this
     dsimp only at this
     rw[ef1,ef1] at this;obtain ⟨⟨q1,q2⟩,q3⟩:=this;have hyz:y=z:=eq_of_beq q1;subst hyz;refine ⟨y,rfl,rfl,?_,eq_of_beq q3⟩;rw[eq4,eq4] at q2
     rcases q2 with (q|q)|q
     · exact .inl (eq_of_beq q)
     · exact .inr (.inl (eq_of_beq q))
     · exact .inr (.inr (eq_of_beq q))
def M4 (l:List Int):List (o9×V):=l.map fun n=>((Sum.inl n:o9),V.bl true)
theorem ar1 {l:List Int}{n:Int}(h:n∈l):C9 (M4 l) (Sum.inl n:o9)=some (.bl true):=by
 induction l with
 |nil=>simp at h
 |cons a r ih=>
  show C9 (((Sum.inl a:o9),V.bl true)::M4 r) _=_
  by_cases e:a=n
  · rw[K6 (by rw[e])]
  · rw[K2 (fun z=>e (Sum.inl.inj z))];exact ih ((ea8.mp h).resolve_left fun z=>e z.symm)
theorem ah3 {l:List Int}{n:Int}(h:n∉l):C9 (M4 l) (Sum.inl n:o9)=none:=by
 induction l with
 |nil=>rfl
 |cons a r ih=>
  show C9 (((Sum.inl a:o9),V.bl true)::M4 r) _=_;rw[K2 (fun z=>h (by rw[Sum.inl.inj z];exact dz7))]
  exact ih fun z=>h (ea0 _ z)
theorem aw6 {l:List Int}{n:Int}(h:n∉l):Q7 (M4 l) (Sum.inl n:o9) (V.bl true)=M4 (l++[n]):=by
 rw[aq3 _ (ah3 h)];unfold M4;rw[dz6];rfl
theorem O0 {ns:List Int}{i:Nat}{y:V}(h:(ns.map V.int)[i]? =some y):∃z,ns[i]? =some z/\y= .int z:=by
 rw[dz4] at h
 cases e:ns[i]? with
 |none=>rw[e] at h;cases h
 |some z=>rw[e] at h;exact ⟨z,rfl,(Option.some.inj h).symm⟩
theorem l6 {α:Type}{l:List α}{i:Nat}{x:α}(h:l[i]? =some x):l.take (i+1)=l.take i++[x]:=by
 rw[List.take_add_one,h];rfl
end L2
namespace Mth
local macro_rules|`(tactic|omega)=>`(tactic|lia)
theorem W0 {p:List Int}{i:Int}(h0:0<=i)(h1:i < p.length):L2.atI (p.map L2.V.int) i=some (.int (p.getD i.toNat 0)):=by
 obtain ⟨j,rfl⟩:=ej1 h0;refine L2.G9 ?_
 have hj:j < p.length:=by omega
 rw[dz4,dz1 hj];show some (L2.V.int p[j])=_;rw[ee0];rw[dz5,dz1 hj];rfl
end Mth
namespace L2
local macro_rules|`(tactic|omega)=>`(tactic|lia)
open PySem PySem.Spec PyProof.Rows
theorem ce7 (K:PySem.W.Frag)(H:Hp)(n:Nat)(xs:List V):LEq K H n xs [] xs.isEmpty:=by
 cases xs with
 |nil=>exact .inr ⟨fun _=>true,rfl,fun j x y e=>by simp at e,rfl⟩
 |cons x r=>exact .inl ⟨by simp,rfl⟩
section
variable {X:Cx} {p pos apos:Pos} {e o:Expr} {es:List Expr} {t:TA} {to:TE}
theorem E4 (ho:PE X o to)(ha:PA X [e] t)
   (hbase:attributeBase o "append" X.env (eval o X.env)=eval o X.env:=by rfl)
   (hfew:((backTo pos (starEach [e] X.env)).all (fun x=> !x.1)&&(backToKw pos (keywordEach [] X.env)).all (fun x=>x.1.isSome)
     &&decide ([e].length+([]:List Keyword).length+(if ([]:List Keyword).isEmpty then 0 else 1) < 30))=true:=by rfl)
   (hline:(apos.endLine==pos.line)=true:=by rfl) (hs:starEach [e] X.env=(false,eval e X.env)::starEach [] X.env:=by rfl) (hplain:(backTo pos (starEach [] X.env)).any (·.1)=false:=by rfl):
   PE X (.Call (.Attribute o "append" apos) [e] [] pos) (tBM X.K "list" ce4 to t):=
 aq2 PySem.F.plainAttrs_list PySem.F.slot_list_append PySem.F.type_list_append cn6 ho ha hbase hfew hline hs hplain
theorem ad9 (hm:X.mg "list"=none)(ha:PA X [e] t)(hg:Gl X "list":=by rfl)(he:starEach [e] X.env=(false,eval e X.env)::starEach [] X.env:=by rfl):
   PE X (.Call (.Name "list" p) [e] [] pos) (tCB (fun xs H Q=>∃p ys,xs=[.ref p]/\(h8 X.K H p ys\/O3 X.K H p ys)/\∀l,H l=none->Q (.ref l) (c9 H l (.lst ys))) t):=
 aw1 bv4 hg hm ar0 ha (by decide) (by decide) he rfl
theorem cj6 {p2 pos2:Pos}(hc:X.calm=true)(hm:X.mg "list"=none)(hm2:X.mg "range"=none)(ha:PA X [e] t)(hg:Gl X "list":=by rfl)(hg2:Gl X "range":=by rfl)(he:starEach [e] X.env=(false,eval e X.env)::starEach [] X.env:=by rfl)
   (he2:starEach [.Call (.Name "range" p2) [e] [] pos2] X.env=(false,eval (.Call (.Name "range" p2) [e] [] pos2) X.env)::starEach [] X.env:=by rfl):
   PE X (.Call (.Name "list" p) [.Call (.Name "range" p2) [e] [] pos2] [] pos) (tCB (fun xs H Q=>∃p lo hi,xs=[.ref p]/\H p=some (.rng lo hi)/\(-(2^62)<=lo/\lo < 2^62/\ -(2^62)<=hi/\hi < 2^62)/\(hi - lo).toNat<=2^20/\
   ∀l,H l=none->Q (.ref l) (c9 H l (.lst ((ab7 lo (hi - lo).toNat).map V.int)))) (da6 (tCB (fun xs H Q=>∃j,xs=[.int j]/\∀p,H p=none->Q (.ref p) (c9 H p (.rng 0 j))) t) dj5)):=
 aw1 (bs1 hc) hg hm ar0 (c5 (aw1 cc7 hg2 hm2 cc8 ha (by decide) (by decide) he rfl) c6 he2) (by decide) (by decide) he2 rfl
theorem dl0 (hc:X.calm=true)(hm:X.mg "sum"=none)(ha:PA X [e] t)(hg:Gl X "sum":=by rfl)(he:starEach [e] X.env=(false,eval e X.env)::starEach [] X.env:=by rfl):
   PE X (.Call (.Name "sum" p) [e] [] pos) (tCB (fun xs H Q=>∃(p:Addr) (ns:List Int),xs=[.ref p]/\h8 X.K H p (ns.map V.int)/\Q (.int ns.sum) H) t):=
 Y1 (co4 hc) hg hm co6 ha (by decide) (by decide) he rfl
theorem ce8 {a b:Expr}(hc:X.calm=true)(hm:X.mg "min"=none)(ha:PA X [a,b] t)(hg:Gl X "min":=by rfl)(he:starEach [a,b] X.env=(false,eval a X.env)::starEach [b] X.env:=by rfl)(hpl:(backTo pos (starEach [b] X.env)).any (·.1)=false:=by rfl):
   PE X (.Call (.Name "min" p) [a,b] [] pos) (tCB (fun xs H Q=>∃i j,xs=[.int i,.int j]/\Q (.int (if j < i then j else i)) H) t):=
 Y1 (cn0 hc) hg hm co7 ha (by decide) (by decide) he hpl
theorem ce9 {a b:Expr}(hc:X.calm=true)(hm:X.mg "max"=none)(ha:PA X [a,b] t)(hg:Gl X "max":=by rfl)(he:starEach [a,b] X.env=(false,eval a X.env)::starEach [b] X.env:=by rfl)(hpl:(backTo pos (starEach [b] X.env)).any (·.1)=false:=by rfl):
   PE X (.Call (.Name "max" p) [a,b] [] pos) (tCB (fun xs H Q=>∃i j,xs=[.int i,.int j]/\Q (.int (if j > i then j else i)) H) t):=
 Y1 (cm9 hc) hg hm co8 ha (by decide) (by decide) he hpl
end
end L2
namespace Mth
local macro_rules|`(tactic|omega)=>`(tactic|lia)
theorem bh4 {α:Type}:∀{l:List α} {k:Nat} {y:α},l[k]? =some y->(y::l.eraseIdx k).Perm l
 |[],k,y,h=>by simp at h
 |a::r,0,y,h=>by
  simp at h;subst h;exact List.Perm.refl _
 |a::r,k+1,y,h=>by
  have h':r[k]? =some y:=by simpa using h
  have ih:=bh4 h';show (y::a::r.eraseIdx k).Perm (a::r);exact (List.Perm.swap a y _).trans (ih.cons a)
end Mth
namespace L2
local macro_rules|`(tactic|omega)=>`(tactic|lia)
open PySem PySem.Spec PyProof.Rows
def dq6 (K:PySem.W.Frag)(ta:TA):TE:=tCB (fun xs H Q=>∃p ys,xs=[.ref p]/\(h8 K H p ys\/O3 K H p ys)/\Q (.int ys.length) H) ta
section
variable {X:Cx} {p pos:Pos} {e:Expr} {t:TA}
theorem cw6 (K:PySem.W.Frag)(hm:X.mg "len"=none)(ha:PA X [e] t)(hK:X.K=K:=by rfl)(hg:Gl X "len":=by rfl)
   (he:starEach [e] X.env=(false,eval e X.env)::starEach [] X.env:=by rfl):PE X (.Call (.Name "len" p) [e] [] pos) (dq6 K t):=by
 subst hK;exact x6 hm ha hg he
end
theorem bd5 (n:Nat):(ec3 n [V.int 0]).flatten=(ec3 n (0:Int)).map V.int:=by
 induction n with
 |zero=>rfl
 |succ n ih=>rw[ej3,ee1,ih,ej3,ed3];rfl
def bh5:V->Int
 | .int i=>i
 |_=>0
theorem cp0 {ys:List V}{xs:List Int}(h:ys.Perm (xs.map V.int)):∃ps:List Int,ys=ps.map V.int/\ps.Perm xs:=by
 refine ⟨ys.map bh5,?_,?_⟩
 · rw[ee4]
   conv=>lhs;rw[<-en6 ys]
   refine ef3 fun y hy=> ?_
   obtain ⟨i,_,rfl⟩:=ea2.mp (h.mem_iff.mp hy);rfl
 · have:=h.map bh5;rw[ee4] at this
   have e:xs.map (bh5∘V.int)=xs:=by
     conv=>rhs;rw[<-en6 xs]
     rfl
   rw[e] at this;exact this
end L2
namespace Mth
local macro_rules|`(tactic|omega)=>`(tactic|lia)
theorem ae0 {fs:List Int}{u v x:Int}(hu:0<=u)(hv:0<=v)(h:u≠v):G1 (fs.set v.toNat x) u=G1 fs u:=by
 unfold G1;rw[eo0 (by omega)]
theorem ah4 {fs:List Int}{v x:Int}(h:v.toNat < fs.length):G1 (fs.set v.toNat x) v=some x:=by
 unfold G1;rw[em7 h]
theorem L8 {ts:List Int}{i:Nat}(h:i < ts.length):ts.getD i 0=ts[i]:=by
 rw[dz5,dz1 h];rfl
theorem S0 {ts:List Int}(nd:ts.Nodup){i j:Nat}(hi:i < ts.length)(hj:j < ts.length)(h:i≠j):ts.getD i 0≠ts.getD j 0:=by
 rw[L8 hi,L8 hj]
 rcases Nat.lt_or_gt_of_ne h with z|z
 · exact eb7.mp (ea7.mp nd) i j hi hj z
 · exact fun e=>eb7.mp (ea7.mp nd) j i hj hi z e.symm
theorem cw7 {ts fs qs:List Int}{k L:Nat}(hL:1<=L)(hb:k+L<=ts.length)(h1:(ts.take k).map (G1 fs)=qs.map some)(hq:qs.Perm (ts.take k))
   (h2:∀j,j < L->G1 fs (ts.getD (k+j) 0)=some (ts.getD (k+(j+1)%L) 0)):∃qs':List Int,qs'.Perm (ts.take (k+L))/\(ts.take (k+L)).map (G1 fs)=qs'.map some:=by
 have hT:((ts.drop k).take L).length=L:=by rw[eb2,ed2];omega
 have hTj:∀j,j < L->((ts.drop k).take L)[j]? =some (ts.getD (k+j) 0):=fun j hj=>by
   rw[ef8 hj,el5,L8 (by omega),dz1 (by omega)]
 have e:((ts.drop k).take L).map (G1 fs)=(((ts.drop k).take L).drop 1++((ts.drop k).take L).take 1).map some:=by
   refine ed7 fun j=> ?_
   by_cases hj:j < L
   · rw[dz4,hTj j hj,dz4];show some (G1 fs (ts.getD (k+j) 0))=_;rw[h2 j hj]
     by_cases hj1:j+1 < L
     · rw[eb6 (by rw[ed2,hT];omega),el5,eh2 1 j,hTj (j+1) hj1,eg0 hj1];rfl
     · have hjL:j+1=L:=by omega
       rw[eb9 (by rw[ed2,hT];omega),ed2,hT,hjL,Nat.mod_self]
       have:j - (L - 1)=0:=by omega
       rw[this,ef8 (by omega),hTj 0 (by omega)];rfl
   · rw[ea5 (by rw[dz0,hT];omega),ea5];rw[dz0,dz9,ed2,eb2 (i:=1),hT];omega
 refine ⟨qs++(((ts.drop k).take L).drop 1++((ts.drop k).take L).take 1),?_,?_⟩
 · rw[List.take_add];refine List.Perm.append hq ?_;refine eh4.trans ?_;rw[eg5]
 · rw[List.take_add,dz6,dz6,h1,e]
end Mth
namespace L2
local macro_rules|`(tactic|omega)=>`(tactic|lia)
open PySem PySem.Spec PyProof.Rows
theorem j5.free {a l:Addr}{H H':Hp}(k:j5 a H H')(h:H' l=none)(n:l≠a):H l=none:=by
 cases e:H l with
 |none=>rfl
 |some o=>have:=k l o e n;rw[h] at this;cases this
theorem e8.kb {a:Addr}{H H1 H2:Hp}(s:e8 H H1)(k:j5 a H1 H2)(h:H a=none):e8 H H2:=fun b o e=>k b o (s b o e) (g8 e h)
def o3 (H:Hp)(as:List Addr)(rs:List (List Int)):Prop:=as.length=rs.length/\∀(j:Nat) a r,as[j]? =some a->rs[j]? =some r->H a=some (.lst (r.map V.int))
theorem bc6 {a b:List Int}(h:a.map V.int=b.map V.int):a=b:=(List.map_inj_right (fun x y (h:V.int x=V.int y)=>V.int.inj h)).mp h
end L2
namespace Mth
local macro_rules|`(tactic|omega)=>`(tactic|lia)
theorem cw8 {p:List Int}(t:y7 p){j:Nat}(h:j < p.length):0<=p.getD j 0/\p.getD j 0 < p.length:=by
 rw[L8 h];exact ⟨t.lo _ (ec6 h),t.hi _ (ec6 h)⟩
end Mth
namespace L2
local macro_rules|`(tactic|omega)=>`(tactic|lia)
open PySem PySem.Spec PyProof.Rows
def Ite (K:PySem.W.Frag)(a:Addr):It:=
 ⟨fun i H=>∃xs x,h8 K H a xs/\xs[i]? =some x,fun i H v H'=>∃x t,(∀xs,h8 K H a xs->xs[i]? =some x)/\H t=none/\v= .ref t/\H'=c9 H t (.tup [.int (i:Int),x]),fun i H=>∃xs,h8 K H a xs/\xs.length<=i⟩
theorem cp2 {P:Program}{w:World}{K:PySem.W.Frag}{elts:List Expr}{x1}{pos:Pos}(a e it:Addr)(hne:e≠it):
   bk8 P w K (.Tuple elts x1 pos) (Ite K a) [e,it] e (fun i h=>(∃old,IsEnum h e it i old)/\h.IsListIter it a i) where
 mem:=by simp
 obj:=fun i h st b hb=>by
   obtain ⟨⟨old,he⟩,⟨o,ho,c,d⟩⟩:=st
   have hb:b=e\/b=it:=by simpa using hb
   rcases hb with rfl|rfl
   · exact ⟨_,he,fun v z=>by cases z⟩
   · exact ⟨o,ho,fun v z=>by rw[d] at z;cases z⟩
 keep:=fun i h h' st k=>⟨let ⟨old,he⟩:=st.1;⟨old,k e (by simp) _ he⟩,st.2.at fun o q=>k it (by simp) o q⟩
 item:=by
   intro X hP hw hK hc i pins s σ H E I hf st hg;subst hP hw hK;obtain ⟨⟨old,he⟩,hit⟩:=st;obtain ⟨xs,x,hq,hx⟩:=hg;obtain ⟨its,rv,p,hz⟩:=I.list hq;obtain ⟨u,hu,ru⟩:=rv.get hx;obtain ⟨f0,f1,f2,f3,f4,f5⟩:=hf e (by simp);obtain ⟨g0,g1,g2,g3,g4,g5⟩:=hf it (by simp)
   refine wpAny_pyNext_enum_item he hit p.isList (x:=u) (by simpa using hu) hne fun h' he' hit' ht' hz' hk'=> ?_
   refine ⟨_,rfl,wpAny_letOwnedTupleGo_enum he' fun h2 he2 hs2=> ?_⟩;have hs2:Heap.SameBut e h' h2:=hs2;have eT:e≠s.heap.objs.size:=ee3 (Heap.lt_size he);have ht2:h2.get? s.heap.objs.size=some {cls:= .type "tuple",data:= .seq #[.int i s.toks,u]}:=hs2.extBut _ _ eT.symm ht'
   have kk:∀b o,b≠e->b≠it->s.heap.get? b=some o->h2.get? b=some o:=fun b o b1 b2 q=>hs2.extBut b o b1 (hk' b o b1 b2 q)
   have hn:H s.heap.objs.size=none:=I.hok.fresh (dz3 _)
   have nT:∀b u',H b=some u'->b≠s.heap.objs.size:=fun b u' q=>g8 q hn
   have ne:∀b u',H b=some u'->b≠e/\b≠it:=fun b u' q=>⟨fun z=>(by rw[z,f0] at q;cases q),fun z=>(by rw[z,g0] at q;cases q)⟩
   have I1:i5 X pins σ (c9 H s.heap.objs.size (.tup [.int (i:Int),x])) {s with heap:=h2,gens:=s.gens,drawn:=s.drawn,toks:=s.toks+1}:=by
     refine I.step (ch:=[e,it]) (fun b hb=> ?_) (fun b o _ _ hc q _=>kk b o (fun z=>hc (by simp [z])) (fun z=>hc (by simp [z])) q) (fun b o _ _ hc q _=>⟨o.slots,kk b o (fun z=>hc (by simp [z])) (fun z=>hc (by simp [z])) q⟩)
       (fun b o hc q n=>by rw[g7 (ee3 (Heap.lt_size q))];exact n) (fun b o hc q=>⟨o,kk b o (fun z=>hc (by simp [z])) (fun z=>hc (by simp [z])) q⟩)
       (fun b ys q=>by rw[g7 (nT b _ q)];exact q) (fun b o ys q=>by rw[g7 (nT b _ q)];exact q) (fun b ps q=>⟨#[],by rw[g7 (nT b _ q),q];simp⟩) (fun m hm=> ?_) (fun b u' q=> ?_) I.bare
     · have hb:b=e\/b=it:=by simpa using hb
       rcases hb with rfl|rfl
       · exact ⟨f3,f1,f4,f5⟩
       · exact ⟨g3,g1,g4,g5⟩
     · obtain ⟨o,es,ep,ho,r⟩:=hm;exact ⟨o,es,ep,kk _ o (Ne.symm f1) (Ne.symm g1) ho,r⟩
     · by_cases hb:b=s.heap.objs.size
       · subst hb;rw[c8] at q;cases q;exact ⟨by show 2<=sizeLine;decide,[.int i s.toks,u],.cons ⟨_,rfl⟩ (.cons ru .nil),⟨_,ht2,rfl,0,rfl⟩⟩
       · rw[g7 hb] at q
         refine (I.hok b u' q).stay (fun c v hc q'=> ?_) (fun c q'=>by rw[g7 (nT c _ q')];exact q') fun c ys q'=>by rw[g7 (nT c _ q')];exact q'
         rcases hc with z|z
         · rw[z] at q' ⊢;exact kk b v (ne b _ q).1 (ne b _ q).2 q'
         · exact kk c v (ne c _ z).1 (ne c _ z).2 q'
   refine ⟨.ref s.heap.objs.size,_,I1,rfl,⟨x,s.heap.objs.size,fun ys hy=>by rw[I.list_inj hy hq];exact hx,hn,rfl,rfl⟩,⟨⟨u,?_⟩,?_⟩,fun b hb=> ?_⟩
   · have:((i+1:Nat):Int)=(i:Int)+1:=by push_cast;rfl
     rw[this];exact he2
   · exact hit'.extBut hs2.extBut hne.symm
   · have hb:b=e\/b=it:=by simpa using hb
     rcases hb with rfl|rfl
     · rw[g7 eT];exact f0
     · obtain ⟨o,ho,_⟩:=hit;rw[g7 (ee3 (Heap.lt_size ho))];exact g0
 done:=by
   intro X hP hw hK hc i pins s σ H E I hf st hg;subst hP hw hK;obtain ⟨⟨old,he⟩,hit⟩:=st;obtain ⟨xs,hq,hx⟩:=hg;obtain ⟨its,rv,p,hz⟩:=I.list hq;obtain ⟨g0,g1,g2,g3,g4,g5⟩:=hf it (by simp);have hl:=rv.length
   exact wpAny_pyNext_enum_end (I.ok.hd hc) he hit p.isList (by simp;omega) fun h' eb=>⟨rfl,I.turned (t':=s.toks) (fun b o hb q=>eb b o hb q) g0 g1 g3 g4 g5⟩
 self:=fun _ _ _ _ _ st h=>let ⟨_,he⟩:=st.1;wpAny_pyIter_enum he h
theorem cp3:bootBuiltins "enumerate"=some (.type "enumerate"):=by decide+kernel
section
variable {X:Cx} {l:Expr} {ta:TA} {p pos:Pos} {elts:List Expr} {x1:Nat} {tpos:Pos}
def dq7 (K:PySem.W.Frag)(ta:TA):TI:=fun σ H R=>ta σ H fun vs H1=>∃a,vs=[.ref a]/\(∃xs,h8 K H1 a xs)/\R (Ite K a) H1
theorem ao1 (hm:X.mg "enumerate"=none)(ha:PA X [l] ta)(hg:Gl X "enumerate":=by rfl)(hs:starEach [l] X.env=[(false,eval l X.env)]:=by rfl):PI X (.Tuple elts x1 tpos) (.Call (.Name "enumerate" p) [l] [] pos) (dq7 X.K ta):=by
 intro pins s σ H R I h;refine Call_ (an0 I hg hm cp3 (PyProof.Rows.callWith_type1 (q0 (ha pos pins s σ H _ I h) fun us s1 ⟨vs,H1,I1,r1,q1⟩=> ?_) hs rfl));obtain ⟨a,e,⟨xs,hq⟩,q⟩:=q1;subst e;obtain ⟨u,rfl,rx⟩:=aq1 r1;cases rx;obtain ⟨its,rv,pl,hz⟩:=I1.list hq
 refine call_enumerate_list pl.isList fun h' he hit hz' hk=> ?_
 refine wpAny_pyIter_enum he ?_;have I2:i5 X pins σ H1 {s1 with heap:=h',toks:=s1.toks}:=I1.kept (t':=s1.toks) hk;refine ⟨s1.heap.objs.size+1,[s1.heap.objs.size+1,s1.heap.objs.size],_,_,H1,rfl,I2,cp2 a (s1.heap.objs.size+1) s1.heap.objs.size (Nat.succ_ne_self _),⟨⟨.none,he⟩,hit⟩,fun b hb=> ?_,q⟩
 have hb:b=s1.heap.objs.size+1\/b=s1.heap.objs.size:=by simpa using hb
 rcases hb with rfl|rfl
 · exact I1.fpOk (by omega) (I1.hok.fresh (by omega))
 · exact I1.fpOk (by omega) (I1.hok.fresh (by omega))
end
theorem ah5 {K:PySem.W.Frag}{a:Addr}{xs:List V}{g:TG}{tb:TS}{D:U3}{σ:St}{H:Hp}(Pv:Nat->St->Hp->Prop)(h0:Pv 0 σ H)(hl:∀i σ H,i<=xs.length->Pv i σ H->h8 K H a xs)
   (hs:∀i x σ H t,xs[i]? =some x->Pv i σ H->H t=none->g (.ref t) σ (c9 H t (.tup [.int (i:Int),x])) fun σ2 H2=>tb {D with nx:=Pv (i+1),ct:=Pv (i+1),bk:=D.nx} σ2 H2) (hd:∀σ H,Pv xs.length σ H->D.nx σ H):
   ∃W:Nat->Nat->St->Hp->Prop,(∃m,W 0 m σ H)/\∀i m σ H,W i m σ H->
    ((Ite K a).stop i H/\D.nx σ H)\/((Ite K a).go i H/\∃N:St->Hp->Prop,(∀σ' H',N σ' H'->∃m',m' < m/\W (i+1) m' σ' H')/\∀x H',(Ite K a).yld i H x H'->g x σ H' fun σ2 H2=>tb {D with nx:=N,ct:=N,bk:=D.nx} σ2 H2):=by
 refine ⟨fun i m σ H=>m=xs.length - i/\i<=xs.length/\Pv i σ H,⟨xs.length,by simp,eb4 _,h0⟩,?_⟩;rintro i m σ H ⟨rfl,hi,p⟩;have q:=hl i σ H hi p
 by_cases hlt:i < xs.length
 · refine .inr ⟨⟨xs,xs[i],q,by simp [hlt]⟩,Pv (i+1),fun σ' H' p'=>⟨xs.length - (i+1),by omega,rfl,hlt,p'⟩,fun x H' y=> ?_⟩;obtain ⟨x',t,y1,y2,e1,e2⟩:=y;subst e1 e2;exact hs i x' σ _ t (y1 xs q) p y2
 · have e:i=xs.length:=by omega
   subst e;exact .inl ⟨⟨xs,q,dz3 _⟩,hd σ H p⟩
end L2
namespace Mth
local macro_rules|`(tactic|omega)=>`(tactic|lia)
def nx (p:List Int)(x:Int):Int:=p.getD x.toNat 0
def it (p:List Int):Nat->Int->Int
 |0,x=>x
 |i+1,x=>nx p (it p i x)
def In (p:List Int)(x:Int):Prop:=0<=x/\x < p.length
theorem cj7 {p:List Int}(t:y7 p){x:Int}(h:In p x):In p (nx p x):=cw8 t (j:=x.toNat) (by have:=h.1;have:=h.2;omega)
theorem bh6 {p:List Int}(t:y7 p){x y:Int}(hx:In p x)(hy:In p y)(h:nx p x=nx p y):x=y:=by
 have a1:=hx.1;have a2:=hx.2;have b1:=hy.1;have b2:=hy.2
 by_cases e:x.toNat=y.toNat
 · omega
 · exact absurd h (S0 t.nd (i:=x.toNat) (j:=y.toNat) (by omega) (by omega) e)
theorem P0 {p:List Int}(t:y7 p){x:Int}(h:In p x):∀i,In p (it p i x)
 |0=>h
 |i+1=>cj7 t (P0 t h i)
theorem J2 (p:List Int)(x:Int):∀i j,it p (i+j) x=it p i (it p j x)
 |0,j=>by rw[ek0];rfl
 |i+1,j=>by
  rw[Nat.add_right_comm];show nx p (it p (i+j) x)=nx p (it p i (it p j x));rw[J2 p x i j]
theorem dd0 (p:List Int)(x:Int)(i:Nat):it p (i+1) x=it p i (nx p x):=by
 rw[J2 p x i 1];rfl
theorem aw7 {p:List Int}(t:y7 p){x y:Int}(hx:In p x)(hy:In p y):∀i,it p i x=it p i y->x=y
 |0,h=>h
 |i+1,h=>aw7 t hx hy i (bh6 t (P0 t hx i) (P0 t hy i) h)
structure K7 (p:List Int)(x:Int)(L:Nat):Prop where
 pos:0 < L
 back:it p L x=x
 least:∀i,0 < i->i < L->it p i x≠x
theorem K7.uniq {p:List Int}{x:Int}{L M:Nat}(h:K7 p x L)(g:K7 p x M):L=M:=by
 rcases es7 L M with z|z|z
 · exact absurd h.back (g.least L h.pos z)
 · exact z
 · exact absurd g.back (h.least M g.pos z)
theorem aw8 {p:List Int}{x:Int}{L:Nat}(h:it p L x=x):∀q,it p (L*q) x=x
 |0=>by rw[eh5];rfl
 |q+1=>by rw[eu1,J2,h,aw8 h q]
theorem aa1 {p:List Int}{x:Int}{L:Nat}(h:it p L x=x)(i:Nat):it p (i%L) x=it p i x:=by
 conv=>rhs;rw[<-eq5 i L,eh2,J2,aw8 h]
theorem cf0 {p:List Int}{x:Int}{L:Nat}(h:it p L x=x){a b:Nat}(e:a%L=b%L):it p a x=it p b x:=by
 rw[<-aa1 h a,e,aa1 h]
theorem K7.shift {p:List Int}(t:y7 p){x:Int}{L:Nat}(hx:In p x)(h:K7 p x L)(j:Nat):K7 p (it p j x) L:=by
 refine ⟨h.pos,?_,fun i i0 i1 e=> ?_⟩
 · rw[<-J2,eh2,J2,h.back]
 · rw[<-J2,eh2,J2] at e;exact h.least i i0 i1 (aw7 t (P0 t hx i) hx j e)
def j9 (p:List Int)(x:Int)(L:Nat):List Int:=(ed0 L).map fun i=>it p i x
theorem o7 (p:List Int)(x:Int)(L:Nat):(j9 p x L).length=L:=by unfold j9;rw[dz0,ec5]
theorem Z2 {p:List Int}{x:Int}{L j:Nat}(h:j < L):(j9 p x L)[j]? =some (it p j x):=by
 unfold j9;rw[dz4,ed8 h];rfl
theorem W1 {p:List Int}{x:Int}{L j:Nat}(h:j < L):(j9 p x L).getD j 0=it p j x:=by
 rw[dz5,Z2 h];rfl
theorem J3 {p:List Int}{x y:Int}{L:Nat}:y∈j9 p x L↔∃j,j < L/\y=it p j x:=by
 unfold j9;rw[ea2];constructor
 · rintro ⟨j,hj,rfl⟩;exact ⟨j,ed1.mp hj,rfl⟩
 · rintro ⟨j,hj,rfl⟩;exact ⟨j,ed1.mpr hj,rfl⟩
theorem ar2 (p:List Int)(x:Int)(m:Nat):j9 p x (m+1)=j9 p x m++[it p m x]:=by
 unfold j9;rw[ej6,dz6];rfl
theorem X4 {p:List Int}(t:y7 p){x:Int}(hx:In p x){m:Nat}(h:∀i,0 < i->i < m->it p i x≠x):(j9 p x m).Nodup:=by
 unfold j9;rw[ea7,ei3];refine List.Pairwise.imp_of_mem (fun {a b} ha hb hlt e=> ?_) ep5;have hb:=ed1.mp hb
 have e2:b=a+(b - a):=by omega
 rw[e2,J2] at e;exact h (b - a) (by omega) (by omega) (aw7 t (P0 t hx _) hx a e.symm)
theorem cp4:∀(n:Nat) (l:List Nat),l.Nodup->(∀x∈l,x < n)->l.length<=n:=by
 intro n
 induction n with
 |zero=>
  intro l _ hb
  cases l with
  |nil=>exact dz3 _
  |cons a r=>exact absurd (hb a dz7) (Nat.not_lt_zero _)
 |succ n ih=>
  intro l nd hb
  by_cases hn:n∈l
  · obtain ⟨s,u,rfl⟩:=List.append_of_mem hn;have pm:(s++n::u).Perm (n::(s++u)):=List.perm_middle;obtain ⟨h1,h2⟩:=ed6.mp (pm.nodup_iff.mp nd)
    have:=ih (s++u) h2 fun x hx=>by
      have hx':=hb x (pm.mem_iff.mpr (ea0 _ hx))
      have:x≠n:=fun e=>h1 (e▸hx)
      omega
    rw[pm.length_eq,ee9];omega
  · exact Nat.le_succ_of_le (ih l nd fun x hx=>by
      have h1:=hb x hx
      have:x≠n:=fun e=>hn (e▸hx)
      omega)
theorem aw9 {p:List Int}{r:List Int}(nd:r.Nodup)(h:∀x∈r,In p x):r.length<=p.length:=by
 have:=cp4 p.length (r.map en5) (by
   rw[ea7,ei3];refine List.Pairwise.imp_of_mem (fun {a b} ha hb hne z=>hne ?_) (ea7.mp nd);have h1:=(h a ha).1;have h2:=(h b hb).1
   omega) fun x hx=>by
     obtain ⟨y,hy,rfl⟩:=ea2.mp hx;have h1:=(h y hy).1;have h2:=(h y hy).2;omega
 rw[dz0] at this;exact this
theorem ab8 {p:List Int}(t:y7 p){x:Int}(hx:In p x){L:Nat}:∀y∈j9 p x L,In p y:=fun y hy=>by
 obtain ⟨j,_,rfl⟩:=J3.mp hy;exact P0 t hx j
theorem N9 {p:List Int}(t:y7 p){x:Int}(hx:In p x){m:Nat}(h:∀i,0 < i->i < m->it p i x≠x):m<=p.length:=by
 have:=aw9 (X4 t hx h) (ab8 t hx);rw[o7] at this;exact this
theorem cc9 {p:List Int}{x y:Int}{L:Nat}(h:K7 p x L)(hy:y∈j9 p x L)(i:Nat):it p i y∈j9 p x L:=by
 obtain ⟨j,hj,rfl⟩:=J3.mp hy;refine J3.mpr ⟨(i+j)%L,eh3 _ h.pos,?_⟩;rw[aa1 h.back,J2]
theorem cp5 {p:List Int}{x y z:Int}{L M:Nat}(h:K7 p x L)(g:K7 p y M)(h1:z∈j9 p x L)(h2:z∈j9 p y M):y∈j9 p x L:=by
 obtain ⟨j,hj,rfl⟩:=J3.mp h2;have:=cc9 h h1 (M - j);rw[<-J2,show M - j+j=M by omega,g.back] at this;exact this
open Classical in
noncomputable def ad2 (p:List Int)(x:Int):Nat:=if h:∃L,K7 p x L then Classical.choose h else 0
theorem bd6 {p:List Int}{x:Int}{L:Nat}(h:K7 p x L):ad2 p x=L:=by
 have hx:∃L,K7 p x L:=⟨L,h⟩;unfold ad2;rw[dif_pos hx];exact (Classical.choose_spec hx).uniq h
noncomputable def q9 (p:List Int):Nat->List (List Int)
 |0=>[]
 |i+1=>if (i:Int)∈(q9 p i).flatten then q9 p i else q9 p i++[j9 p i (ad2 p i)]
structure I0 (p:List Int)(i:Nat)(rs:List (List Int)):Prop where
 ring:∀r∈rs,∃x L,In p x/\K7 p x L/\r=j9 p x L/\(∀y∈r,x<=y)/\x < i
 nd:rs.flatten.Nodup
 all:∀u:Int,0<=u->u < i->u∈rs.flatten
 ord:rs.Pairwise fun r s=>r.getD 0 0 < s.getD 0 0
 eq:rs=q9 p i
theorem ar3 (p:List Int):I0 p 0 []:=⟨fun r hr=>by simp at hr,ef6,fun u h1 h2=>by omega,List.Pairwise.nil,rfl⟩
theorem ar4 {p:List Int}{i:Nat}{rs:List (List Int)}(h:I0 p i rs)(hi:(i:Int)∈rs.flatten):I0 p (i+1) rs:=by
 refine ⟨fun r hr=> ?_,h.nd,fun u h1 h2=> ?_,h.ord,?_⟩
 · obtain ⟨x,L,a,b,c,d,e⟩:=h.ring r hr;exact ⟨x,L,a,b,c,d,by omega⟩
 · by_cases e:u=i
   · subst e;exact hi
   · exact h.all u h1 (by omega)
 · show rs=if (i:Int)∈(q9 p i).flatten then q9 p i else q9 p i++[j9 p i (ad2 p i)]
   rw[<-h.eq,if_pos hi]
theorem al5 {p:List Int}{i:Nat}{rs:List (List Int)}(h:I0 p i rs){L:Nat}(hL:K7 p i L)(hi:(i:Int)∉rs.flatten):∀y∈j9 p i L,y∉rs.flatten:=by
 intro y hy hm;obtain ⟨r,hr,hyr⟩:=ec9.mp hm;obtain ⟨x,M,a,b,rfl,d,e⟩:=h.ring r hr;exact hi (ec9.mpr ⟨_,hr,cp5 b hL hyr hy⟩)
theorem ar5 {p:List Int}(t:y7 p){i:Nat}{rs:List (List Int)}(h:I0 p i rs)(hx:In p i){L:Nat}(hL:K7 p i L)(hi:(i:Int)∉rs.flatten):I0 p (i+1) (rs++[j9 p i L]):=by
 have fr:=al5 h hL hi;refine ⟨fun r hr=> ?_,?_,fun u h1 h2=> ?_,?_,?_⟩
 · rcases ea3.mp hr with z|z
   · obtain ⟨x,L,a,b,c,d,e⟩:=h.ring r z;exact ⟨x,L,a,b,c,d,by omega⟩
   · have:r=j9 p i L:=by simpa using z
     subst this;refine ⟨i,L,hx,hL,rfl,fun y hy=> ?_,by omega⟩;have y0:=(ab8 t hx y hy).1
     by_cases hlt:y < i
     · exact absurd (h.all y y0 hlt) (fr y hy)
     · omega
 · rw[eg6,eh1];refine ef7.mpr ⟨h.nd,X4 t hx fun j j0 j1=>hL.least j j0 j1,fun a ha b hb e=> ?_⟩;subst e;exact fr a hb ha
 · rw[eg6,eh1]
   by_cases e:u=i
   · subst e;exact ea9 _ (J3.mpr ⟨0,hL.pos,rfl⟩)
   · exact ed9 _ (h.all u h1 (by omega))
 · refine List.pairwise_append.mpr ⟨h.ord,ek8 _ _,fun r hr s hs=> ?_⟩
   have:s=j9 p i L:=by simpa using hs
   subst this;obtain ⟨x,M,a,b,rfl,d,e⟩:=h.ring r hr;rw[W1 b.pos,W1 hL.pos];exact e
 · show rs++[j9 p i L]=if (i:Int)∈(q9 p i).flatten then q9 p i else q9 p i++[j9 p i (ad2 p i)]
   rw[<-h.eq,if_neg hi,bd6 hL]
def D0 (p:List Int)(k:Int)(t:List Int):Prop:=t.length=p.length/\∀x,In p x->∃L,K7 p x L/\G1 t x=some (it p (k%(L:Int)).toNat x)
theorem cj8 {p:List Int}{x:Int}{L:Nat}(h:K7 p x L)(k:Int)(j:Nat):it p (((j:Int)+k)%(L:Int)).toNat x=it p (k%(L:Int)).toNat (it p j x):=by
 rw[<-J2];refine cf0 h.back ?_
 have hL:(0:Int) < (L:Int):=by have:=h.pos;omega
 have a1:=ee6 ((j:Int)+k) (show (L:Int)≠0 by omega);have b1:=ee6 k (show (L:Int)≠0 by omega)
 have:(((((j:Int)+k)%(L:Int)).toNat%L:Nat):Int)=((((k%(L:Int)).toNat+j)%L:Nat):Int):=by
   rw[ei9,ei9,em4 a1,ev0,em4 b1,Int.emod_emod,Int.emod_add_emod,Int.add_comm]
 exact Int.ofNat.inj this
end Mth
namespace Mth
local macro_rules|`(tactic|omega)=>`(tactic|lia)
theorem ao2 {p:List Int}{x:Int}(h:In p x):G1 p x=some (nx p x):=by
 have a1:=h.1;have a2:=h.2;unfold G1 nx;rw[dz5,dz1 (by omega)];rfl
theorem dd1 {p s:List Int}(t:y7 p)(h:D0 p (-1) s){x:Int}(hx:In p x):∃y,G1 s x=some y/\In p y/\nx p y=x:=by
 obtain ⟨L,hL,e⟩:=h.2 x hx;have hpos:=hL.pos
 have e1:((-1:Int)%(L:Int)).toNat=L - 1:=by
   have h1:(-1:Int)%(L:Int)=(L:Int) - 1:=by
     have:=Int.add_emod_right (-1:Int) (L:Int);rw[<-this,Int.emod_eq_of_lt (by omega) (by omega)];omega
   rw[h1];omega
 rw[e1] at e;refine ⟨_,e,P0 t hx _,?_⟩;show it p (L - 1+1) x=x;rw[show L - 1+1=L by omega,hL.back]
theorem dx5 {p s:List Int}(t:y7 p)(h:D0 p (-1) s){f:Nat->Int}(hf:∀u,u < p.length->∃j:Nat,f u=(j:Int)/\p[j]? =some (u:Int)):s=(ed0 p.length).map f:=by
 refine ed7 fun u=> ?_
 by_cases hu:u < p.length
 · obtain ⟨y,e,hy,en⟩:=dd1 t h (x:=(u:Int)) ⟨by omega,by omega⟩;obtain ⟨j,e1,e2⟩:=hf u hu;have hj:j < p.length:=(dz2.mp e2).1
   have e3:nx p (j:Int)=(u:Int):=by
     unfold nx;rw[ee0,L8 hj];exact (dz2.mp e2).2
   have:y=(j:Int):=bh6 t hy ⟨by omega,by omega⟩ (by rw[en,e3]);unfold G1 at e;rw[ee0] at e;rw[e,dz4,ed8 hu,this];show some (j:Int)=some (f u);rw[e1]
 · rw[ea5 (by rw[h.1];omega),ea5 (by rw[dz0,ec5];omega)]
end Mth
namespace Mth
local macro_rules|`(tactic|omega)=>`(tactic|lia)
theorem D0.uniq {p:List Int}{k:Int}{s t:List Int}(h:D0 p k s)(g:D0 p k t):s=t:=by
 refine ed7 fun u=> ?_
 by_cases hu:u < p.length
 · have hx:In p (u:Int):=⟨by omega,by omega⟩;obtain ⟨L,h1,h2⟩:=h.2 u hx;obtain ⟨M,g1,g2⟩:=g.2 u hx;have e:=h1.uniq g1;subst e;unfold G1 at h2 g2;rw[ee0] at h2 g2;rw[h2,g2]
 · rw[ea5 (by rw[h.1];omega),ea5 (by rw[g.1];omega)]
end Mth
namespace Mth
local macro_rules|`(tactic|omega)=>`(tactic|lia)
theorem ax0 {p:List Int}(t:y7 p){x:Int}(hx:In p x):∃L,K7 p x L:=by
 have h0:∃i,0 < i/\i<=p.length/\it p i x=x:=Classical.byContradiction fun hn=>by
   have:=N9 t hx (m:=p.length+1) fun i i0 i1 e=>hn ⟨i,i0,by omega,e⟩
   omega
 have key:∀n,(∃i,0 < i/\i<=n/\it p i x=x)->∃L,K7 p x L:=by
   intro n
   induction n with
   |zero=>rintro ⟨i,i0,i1,_⟩;omega
   |succ n ih=>
    rintro ⟨i,i0,i1,e⟩
    by_cases h:∃j,0 < j/\j<=n/\it p j x=x
    · exact ih h
    · refine ⟨i,i0,e,fun j j0 j1 ej=>h ⟨j,j0,by omega,ej⟩⟩
 exact key _ h0
theorem cf1 {p:List Int}{x:Int}{L:Nat}(h:K7 p x L){i:Nat}(e:it p i x=x):L∣i:=by
 rw[<-aa1 h.back] at e;refine Nat.dvd_of_mod_eq_zero (Classical.byContradiction fun hn=> ?_);exact h.least (i%L) (by omega) (eh3 _ h.pos) e
theorem bw6 {p:List Int}{x:Int}{L:Nat}(h:K7 p x L){a b:Nat}(e:((a:Int) - (b:Int))%(L:Int)=0):it p a x=it p b x:=by
 refine cf0 h.back ?_
 have:((a%L:Nat):Int)=((b%L:Nat):Int):=by
   rw[ei9,ei9]
   exact Int.emod_emod_of_dvd _ (Int.dvd_refl _)|>.symm.trans (by
     rw[Int.emod_emod]
     exact (Int.emod_eq_emod_iff_emod_sub_eq_zero).mpr e)
 exact Int.ofNat.inj this
theorem bp8 {t:List Int}(h1:∀x:Int,0<=x->x < t.length->0<=nx t x/\nx t x < t.length)(h2:∀x y:Int,0<=x->x < t.length->0<=y->y < t.length->nx t x=nx t y->x=y):y7 t:=by
 have g:∀i (hi:i < t.length),nx t (i:Int)=t[i]:=fun i hi=>by unfold nx;rw[ee0,L8 hi]
 refine ⟨?_,fun x hx=> ?_,fun x hx=> ?_⟩
 · rw[ea7,eb7];intro i j hi hj hlt e;have:=h2 i j (by omega) (by omega) (by omega) (by omega) (by rw[g i hi,g j hj];exact e);omega
 · obtain ⟨i,hi,rfl⟩:=List.mem_iff_getElem.mp hx;rw[<-g i hi];exact (h1 i (by omega) (by omega)).1
 · obtain ⟨i,hi,rfl⟩:=List.mem_iff_getElem.mp hx;rw[<-g i hi];exact (h1 i (by omega) (by omega)).2
theorem cp6 {p t:List Int}{k:Int}(h:D0 p k t){x:Int}(hx:In p x):∃L,K7 p x L/\∀m:Nat,((m:Int) - k)%(L:Int)=0->nx t x=it p m x:=by
 obtain ⟨L,hL,e⟩:=h.2 x hx;refine ⟨L,hL,fun m hm=> ?_⟩
 have e1:nx t x=it p (k%(L:Int)).toNat x:=by
   have hx':In t x:=⟨hx.1,by rw[h.1];exact hx.2⟩;rw[ao2 hx'] at e;exact Option.some.inj e
 rw[e1];refine bw6 hL ?_;have b0:=ee6 k (show (L:Int)≠0 by have:=hL.pos;omega);rw[em4 b0]
 have:k%(L:Int) - (m:Int)= -(((m:Int) - k)+(k - k%(L:Int))):=by omega
 rw[this];have d1:(L:Int)∣((m:Int) - k):=Int.dvd_of_emod_eq_zero hm;have d2:(L:Int)∣(k - k%(L:Int)):=ep8;exact ep2 (Int.dvd_neg.mpr (Int.dvd_add d1 d2))
theorem dl1 {p t:List Int}{k:Int}(tp:y7 p)(hl:t.length=p.length)(h:∀x,In p x->∀L,K7 p x L->∃m:Nat,((m:Int) - k)%(L:Int)=0/\nx t x=it p m x):D0 p k t:=by
 refine ⟨hl,fun x hx=> ?_⟩;obtain ⟨L,hL⟩:=ax0 tp hx;obtain ⟨m,hm,e⟩:=h x hx L hL;refine ⟨L,hL,?_⟩;rw[ao2 (p:=t) ⟨hx.1,by rw[hl];exact hx.2⟩,e]
 congr 1
 refine bw6 hL ?_;have b0:=ee6 k (show (L:Int)≠0 by have:=hL.pos;omega);rw[em4 b0]
 have:(m:Int) - k%(L:Int)=((m:Int) - k)+(k - k%(L:Int)):=by omega
 rw[this];exact ep2 (Int.dvd_add (Int.dvd_of_emod_eq_zero hm) ep8)
theorem cw9 (k:Int)(L:Nat)(h:0 < L):(((k%(L:Int)).toNat:Int) - k)%(L:Int)=0:=by
 have b0:=ee6 k (show (L:Int)≠0 by omega);rw[em4 b0]
 have:k%(L:Int) - k= -(k - k%(L:Int)):=by omega
 rw[this];exact ep2 (Int.dvd_neg.mpr ep8)
theorem dd2 {p t:List Int}{k:Int}(tp:y7 p)(h:D0 p k t):y7 t:=by
 have tx:∀x,In p x->∃L,K7 p x L/\nx t x=it p (k%(L:Int)).toNat x:=fun x hx=>by
   obtain ⟨L,hL,e⟩:=cp6 h hx;exact ⟨L,hL,e _ (cw9 k L hL.pos)⟩
 refine bp8 (fun x x0 x1=> ?_) (fun x y x0 x1 y0 y1 e=> ?_)
 · rw[h.1] at x1 ⊢;obtain ⟨L,hL,e⟩:=tx x ⟨x0,x1⟩;rw[e];exact P0 tp ⟨x0,x1⟩ _
 · rw[h.1] at x1 y1;obtain ⟨L,hL,e1⟩:=tx x ⟨x0,x1⟩;obtain ⟨M,hM,e2⟩:=tx y ⟨y0,y1⟩;rw[e1,e2] at e;have pL:=hL.shift tp ⟨x0,x1⟩ (k%(L:Int)).toNat;have pM:=hM.shift tp ⟨y0,y1⟩ (k%(M:Int)).toNat;rw[e] at pL;have:=pL.uniq pM;subst this;exact aw7 tp ⟨x0,x1⟩ ⟨y0,y1⟩ _ e
end Mth
namespace L2
local macro_rules|`(tactic|omega)=>`(tactic|lia)
open PySem PySem.Spec PyProof.Rows
section
variable {X:Cx} {o e:Expr} {to:TE} {t:TA} {apos pos p:Pos}
theorem cp7 (ho:PE X o to)(ha:PA X [e] t)
   (hbase:attributeBase o "extend" X.env (eval o X.env)=eval o X.env:=by rfl)
   (hfew:((backTo pos (starEach [e] X.env)).all (fun x=> !x.1)&&(backToKw pos (keywordEach [] X.env)).all (fun x=>x.1.isSome)
     &&decide ([e].length+([]:List Keyword).length+(if ([]:List Keyword).isEmpty then 0 else 1) < 30))=true:=by rfl)
   (hline:(apos.endLine==pos.line)=true:=by rfl) (hs:starEach [e] X.env=(false,eval e X.env)::starEach [] X.env:=by rfl) (hplain:(backTo pos (starEach [] X.env)).any (·.1)=false:=by rfl):
   PE X (.Call (.Attribute o "extend" apos) [e] [] pos) (tBM X.K "list" ce5 to t):=
 aq2 PySem.F.plainAttrs_list PySem.F.slot_list_extend PySem.F.type_list_extend cn7 ho ha hbase hfew hline hs hplain
end
theorem bd7 (xs:List V)(k:Nat)(h:k<=xs.length):Y2 xs (some (k:Int)) none=xs.drop k:=by
 unfold Y2;rw[HT.dx3,HT.dw1,eo9 h,ej5 (by rw[ed2];omega)]
theorem cp8 (xs:List V)(k:Nat)(h:k<=xs.length):Y2 xs none (some (k:Int))=xs.take k:=by
 unfold Y2;rw[HT.dx3,HT.dw1,eo9 h,ev6,Nat.sub_zero]
def U5 (H:Hp)(e:Addr):List Int:=match H e with
 |some (.lst xs)=>xs.map bh5
 |_=>[]
theorem ah6 {H:Hp}{e:Addr}{r:List Int}(h:H e=some (.lst (r.map V.int))):U5 H e=r:=by
 unfold U5;rw[h];show (r.map V.int).map bh5=r;rw[ee4]
 conv=>rhs;rw[<-en6 r]
 rfl
theorem cj9 {H:Hp}{as:List Addr}{rs:List (List Int)}(h:o3 H as rs):as.map (U5 H)=rs:=by
 refine ed7 fun j=> ?_
 rw[dz4]
 by_cases hj:j < as.length
 · have e1:as[j]? =some as[j]:=dz1 hj;have e2:rs[j]? =some (rs[j]'(by rw[<-h.1];exact hj)):=dz1 _;rw[e1,e2];show some (U5 H as[j])=_;rw[ah6 (h.2 j _ _ e1 e2)]
 · rw[ea5 (by omega),ea5 (by rw[<-h.1];omega)];rfl
end L2
namespace L2
local macro_rules|`(tactic|omega)=>`(tactic|lia)
open PySem PySem.Spec PyProof.Rows
theorem bw7:bootBuiltins "sorted"=some (.builtin "sorted"):=by decide+kernel
section
variable {X:Cx}
variable {e:Expr} {t:TA} {p pos kpos:Pos}
def dw8 (K:PySem.W.Frag)(te:TE)(ts:TO):TE:=fun σ H Q=>te σ H fun x H1=>ts σ H1 fun o H2=>o=some (-1)/\∃a xs,x= .ref a/\h8 K H2 a xs/\∀p,H2 p=none->Q (.ref p) (c9 H2 p (.lst xs.reverse))
theorem dl2 {st:Expr}{te:TE}{ts:TO}{p2:Pos}(he:PE X e te)(hst:PO X (some st) ts):PE X (.Subscript e (.Slice none none (some st) p2) pos) (dw8 X.K te ts):=by
 intro pins s σ H Q I h;refine Subscript_ (q0 (he pins s σ H _ I h) fun v s1 ⟨x,H1,I1,r1,q1⟩=> ?_);refine wpAny_Slice ?_;rw[evalPart_none];refine wpAny_pure (wpAny_pure ?_)
 refine q0 (hst pins s1 σ H1 _ I1 q1) fun vk s3 ⟨k,H3,I3,pk,ek,a,xs,ex,hx,q⟩=> ?_
 subst ek ex;cases r1
 have I4:i5 X pins σ H3 {s3 with heap:=s3.heap.push {cls:= .type "slice",data:= .fields #[.none,.none,vk]}}:=I3.kept (t':=s3.toks) fun b ob q=>Heap.get?_push_of_some _ q
 obtain ⟨its,r,ht,hz⟩:=I4.list hx;have hlen:=r.length;show wpAny (model X.prog X.w) X.A (subscriptTail e (.Slice none none (some st) p2) (.ref a) (.ref s3.heap.objs.size)) (EP X pins σ Q) X.xe {s3 with heap:=s3.heap.push {cls:= .type "slice",data:= .fields #[.none,.none,vk]}};refine tail_any (ops:=[.ref a,.ref s3.heap.objs.size]) (T:="list") ht.isList.typeIs slot_list_getitem.lookup ?_ rfl;refine wpAny_getItem_list_slice ht.isList (Heap.IsSliceOf.new ..) .none .none pk (by decide) ?_ (by rw[ea6]<;>omega);rw[PySem.W.krv_pick]
 have I5:=I4.laid (t':=s3.toks) (o:= .lst xs.reverse) (h':=(s3.heap.push {cls:= .type "slice",data:= .fields #[.none,.none,vk]}).push {cls:= .type "list",data:= .seq its.reverse.toArray}) (a:=(s3.heap.push {cls:= .type "slice",data:= .fields #[.none,.none,vk]}).objs.size)
   (fun b ob q=>Heap.get?_push_of_some _ q) (dz3 _) ⟨by rw[el0];exact hz,its.reverse,0,r.reverse,Heap.get?_push_size _ rfl⟩
 exact ⟨.ref _,_,I5,rfl,q _ (I4.hok.fresh (dz3 _))⟩
end
end L2
namespace L2
local macro_rules|`(tactic|omega)=>`(tactic|lia)
open PySem PySem.Spec PyProof.Rows
def ax1:List Expr->Option (List Int)
 |[]=>some []
 | .Constant (.int i) _ _::es=>(ax1 es).map (i:: ·)
 |_::_=>none
def dq8 (ns:List Int):TA:=fun _ H Q=>Q (ns.map V.int) H
def dq9 (ns:List Int):TE:=fun _ H Q=>ns.length<=sizeLine/\∀p,H p=none->Q (.ref p) (c9 H p (.lst (ns.map V.int)))
theorem bw8 (i:Int)(j:Nat)(p:Pos)(es:List Expr)(env:Env):starEach (.Constant (.int i) j p::es) env=(false,eval (.Constant (.int i) j p) env)::starEach es env:=rfl
theorem bd8 {X:Cx}:∀(es:List Expr) (ns:List Int),ax1 es=some ns->PA X es (dq8 ns)
 |[],ns,h=>by
  have:ns=[]:=(Option.some.inj h).symm;subst this
  exact fun pos pins s σ H Q I h=>c6 pos pins s σ H Q I h
 |e::es,ns,h=>by
  unfold ax1 at h
  split at h
  · rename_i h0;cases h0
  · rename_i i j p es' heq;cases heq
    cases ho:ax1 es with
    |none=>rw[ho] at h;cases h
    |some ms=>
     rw[ho] at h;cases h
     exact fun pos pins s σ H Q I h=>(c5 (te:=tC (.int i)) g9 (bd8 es ms ho) (bw8 i j p es X.env)) pos pins s σ H Q I h
  · cases h
theorem cx0 {X:Cx}{pos:Pos}{es:List Expr}(ns:List Int)(h:ax1 es=some ns):PE X (.List es pos) (dq9 ns):=fun pins s σ H Q I h'=>o8 (bd8 es ns h) pins s σ H Q I (by
 show (ns.map V.int).length<=sizeLine/\_
 rw[dz0];exact h')
end L2
namespace L2
local macro_rules|`(tactic|omega)=>`(tactic|lia)
open PySem PySem.Spec PyProof.Rows
theorem cp9 {H:Hp}{a:Addr}{as:List Addr}{r:List Int}{rs:List (List Int)}(h:H a=some (.lst (r.map V.int)))(hr:o3 H as rs):o3 H (a::as) (r::rs):=by
 refine ⟨by rw[ee9,ee9,hr.1],fun j b q h1 h2=> ?_⟩
 cases j with
 |zero=>
  rw[eu5] at h1 h2;cases h1;cases h2;exact h
 |succ j=>
  rw[eu6] at h1 h2;exact hr.2 j b q h1 h2
theorem bd9 {H:Hp}:∀{as bs:List Addr} {rs qs:List (List Int)},o3 H as rs->o3 H bs qs->o3 H (as++bs) (rs++qs)
 |[],bs,[],qs,_,h=>h
 |[],bs,r::rs,qs,h,_=>by have:=h.1;simp at this
 |a::as,bs,[],qs,h,_=>by have:=h.1;simp at this
 |a::as,bs,r::rs,qs,h,h'=>cp9 (h.2 0 a r rfl rfl) (bd9 ⟨by have:=h.1;simpa using this,fun j b q h1 h2=>h.2 (j+1) b q h1 h2⟩ h')
end L2
namespace L2
local macro_rules|`(tactic|omega)=>`(tactic|lia)
open PySem PySem.Spec PyProof.Rows
section
variable {X:Cx}
theorem cx1 {P:Program}{w:World}{k:o9}{u:Value}(h:(E6 P w).is k u=true):o5 (kV k) u:=by
 cases k with
 |inl i=>
  cases u with
  |int j t=>
   have:i=j:=by
     have h2:=KeyKind.is_eq_decide (knd:=E6 P w) (bc2 P w j t) (Sum.inl i);rw[h] at h2;have:=of_decide_eq_true h2.symm;exact Sum.inl.inj this
   subst this;exact ⟨t,rfl⟩
  |_=>cases h
 |inr x=>
  cases u with
  |str y t=>
   have:x=y:=by
     have h2:=KeyKind.is_eq_decide (knd:=E6 P w) (bc3 P w y t) (Sum.inr x);rw[h] at h2;have:=of_decide_eq_true h2.symm;exact Sum.inr.inj this
   subst this;exact ⟨t,rfl⟩
  |_=>cases h
theorem i5.freeze {pins:List (Addr×Obj)}{σ:St}{H:Hp}{s:Shared}{a:Addr}{kvs:List (o9×V)}{o:Obj}(I:i5 X pins σ H s)(e:H a=some (.dK kvs))(ho:s.heap.get? a=some o):i5 X pins σ (c9 H a (.frz o (.dK kvs))) s:=by
 have ok:B9 X.prog X.w H s.heap a (.dK kvs):=I.hok a _ e;exact ba1 (h':=s.heap) (t':=s.toks) I (by rw[e];exact True.intro) ⟨rfl,fun b _=>rfl⟩ ⟨o,ho⟩ ⟨ho,ok⟩
def Itd (d:Addr)(o:Obj)(kvs:List (o9×V)):It:=
 ⟨fun i H=>H d=some (.frz o (.dK kvs))/\i < kvs.length,fun i H x H'=>H'=H/\∃k v,kvs[i]? =some (k,v)/\x=kV k,fun i H=>H d=some (.frz o (.dK kvs))/\kvs.length<=i⟩
theorem db1 {P:Program}{w:World}{H:Hp}{h:Heap}{d:Addr}{o:Obj}{kvs:List (o9×V)}(x:B9 P w H h d (.frz o (.dK kvs))){es:Array DictEntry}{ep:Nat}(hd:o.data= .dict es ep):∃vs,KV kvs vs/\h.DictAt (E6 P w) d vs ep:=by
 obtain ⟨ho,_,_,vs,rel,o',es',ep',ho',hc,hd',r⟩:=x;rw[ho] at ho';cases ho';rw[hd] at hd';cases hd';exact ⟨vs,rel,o,es,ho,hc,hd,r⟩
theorem ck0 {α β:Type}{R:α->β->Prop}{xs:List α}{ys:List β}(h:Paired R xs ys):∀{i:Nat} {x:α},xs[i]? =some x->∃y,ys[i]? =some y/\R x y:=by
 induction h with
 |nil=>intro i x e;simp at e
 |cons r _ ih=>
  intro i x e
  cases i with
  |zero=>rw[eu5] at e;cases e;exact ⟨_,rfl,r⟩
  |succ i=>rw[eu6] at e;exact ih e
theorem ax2 {P:Program}{w:World}{K:PySem.W.Frag}{tg:Expr}(d it:Addr)(o:Obj)(kvs:List (o9×V))(es:Array DictEntry)(ep:Nat)(hdat:o.data= .dict es ep):bk8 P w K tg (Itd d o kvs) [it] it (fun i h=>h.IsKeyIter it d i kvs.length ep) where
 mem:=by simp
 obj:=fun i h st b hb=>by
   have e:b=it:=by simpa using hb
   subst e;obtain ⟨o,e,c,d⟩:=st;exact ⟨o,e,fun v z=>by rw[d] at z;cases z⟩
 keep:=fun i h h' st k=>by
   obtain ⟨o,e,r⟩:=st;exact ⟨o,k it (by simp) o e,r⟩
 item:=by
   intro X hP hw hK hc i pins s σ H E I hf st hg;subst hP hw hK;obtain ⟨hH,hi⟩:=hg;obtain ⟨vs,rel,hat⟩:=db1 (I.hok d _ hH) hdat;have hl:kvs.length=vs.length:=rel.length;obtain ⟨f0,f1,f2,f3,f4,f5⟩:=hf it (by simp);have e1:kvs[i]? =some (kvs[i].1,kvs[i].2):=dz1 hi;generalize kvs[i].1=k at e1;generalize kvs[i].2=v at e1;obtain ⟨⟨k',u⟩,e2,e3,_⟩:=ck0 rel e1;have e3:k=k':=e3;subst e3;rw[hl] at st
   refine wpAny_pyNext_dict_item st hat e2 fun key h' hk st' sb=> ?_
   have I1:i5 X pins σ H {s with heap:=h'}:=I.turned (t':=s.toks) (fun b o hb e=>(sb.2 b hb).trans e) f0 f1 f3 f4 f5;obtain ⟨o,e,c,dd⟩:=id st';exact ⟨key,rfl,bt1 (s:={s with heap:=h'}) e c dd (by decide) ⟨kV k,H,I1,cx1 hk,⟨rfl,k,v,e1,rfl⟩,by rw[hl];exact st',fun b hb=>(hf b hb).1⟩⟩
 done:=by
   intro X hP hw hK hc i pins s σ H E I hf st hg;subst hP hw hK;obtain ⟨hH,hi⟩:=hg;obtain ⟨vs,rel,hat⟩:=db1 (I.hok d _ hH) hdat;have hl:kvs.length=vs.length:=rel.length;obtain ⟨f0,f1,f2,f3,f4,f5⟩:=hf it (by simp);rw[hl] at st
   exact wpAny_pyNext_dict_end (I.ok.hd hc) st hat (ea5 (by omega)) fun h' eb=>⟨rfl,I.turned (t':=s.toks) (fun b o hb e=>eb b o hb e) f0 f1 f3 f4 f5⟩
 self:=fun _ _ _ _ _ st h=>wpAny_pyIter_keyiter st h
def dr0 (td:TE):TI:=fun σ H R=>td σ H fun x H1=>∃d kvs,x= .ref d/\H1 d=some (.dK kvs)/\∀o,R (Itd d o kvs) (c9 H1 d (.frz o (.dK kvs)))
theorem bl1 {tg l:Expr}{tl:TE}(hl:PE X l tl):PI X tg l (dr0 tl):=by
 intro pins s σ H R I h
 refine q0 (hl pins s σ H _ I h) fun v s1 ⟨x,H1,I1,r1,q1⟩=> ?_
 obtain ⟨d,kvs,e,hH,q⟩:=q1;subst e;cases r1;obtain ⟨_,hsm,vs,rel,o,es,ep,ho,hc,hdat,rr⟩:=(show B9 X.prog X.w H1 s1.heap d (.dK kvs) from I1.hok d _ hH);have hat:s1.heap.DictAt (E6 X.prog X.w) d vs ep:=⟨o,es,ho,hc,hdat,rr⟩;have I2:=I1.freeze hH ho;refine wpAny_pyIter_dict hsm hat ?_;have hlen:kvs.length=vs.length:=rel.length;refine ⟨s1.heap.objs.size,[s1.heap.objs.size],_,_,_,rfl,I2.kept (t':=s1.toks) fun b o e=>Heap.get?_push_of_some _ e,ax2 d _ o kvs es ep hdat,⟨_,Heap.get?_push_size _ rfl,rfl,by rw[hlen];rfl⟩,fun b hb=> ?_,q o⟩
 have e:b=s1.heap.objs.size:=by simpa using hb
 subst e;exact I2.fpOk (dz3 _) (I2.hok.fresh (dz3 _))
theorem ar6 {d:Addr}{o:Obj}{kvs:List (o9×V)}{g:TG}{tb:TS}{D:U3}{σ:St}{H:Hp}(Pv:Nat->St->Hp->Prop)(h0:Pv 0 σ H)(hl:∀i σ H,i<=kvs.length->Pv i σ H->H d=some (.frz o (.dK kvs)))
   (hs:∀i k v σ H,kvs[i]? =some (k,v)->Pv i σ H->g (kV k) σ H fun σ2 H2=>tb {D with nx:=Pv (i+1),ct:=Pv (i+1),bk:=D.nx} σ2 H2) (hd:∀σ H,Pv kvs.length σ H->D.nx σ H):
   ∃W:Nat->Nat->St->Hp->Prop,(∃m,W 0 m σ H)/\∀i m σ H,W i m σ H->
    ((Itd d o kvs).stop i H/\D.nx σ H)\/((Itd d o kvs).go i H/\∃N:St->Hp->Prop,(∀σ' H',N σ' H'->∃m',m' < m/\W (i+1) m' σ' H')/\∀x H',(Itd d o kvs).yld i H x H'->g x σ H' fun σ2 H2=>tb {D with nx:=N,ct:=N,bk:=D.nx} σ2 H2):=by
 refine ⟨fun i m σ H=>m=kvs.length - i/\i<=kvs.length/\Pv i σ H,⟨kvs.length,by simp,eb4 _,h0⟩,?_⟩;rintro i m σ H ⟨rfl,hi,p⟩;have q:=hl i σ H hi p
 by_cases hlt:i < kvs.length
 · refine .inr ⟨⟨q,hlt⟩,Pv (i+1),fun σ' H' p'=>⟨kvs.length - (i+1),by omega,rfl,hlt,p'⟩,fun x H' y=> ?_⟩;obtain ⟨e,k,v,y1,y2⟩:=y;subst e y2;exact hs i k v σ _ y1 p
 · have e:i=kvs.length:=by omega
   subst e;exact .inl ⟨⟨q,dz3 _⟩,hd σ H p⟩
theorem al6 {prog:Program}{w:World}{κ:Type}[DecidableEq κ](knd:KeyKind prog w κ){k:κ}{key:Value}(d:Addr)(hkey:knd.is k key=true)(hd:(d==sysModules)=false)(dflt:Value):
   MeetsIn prog w (Builtin.«dict.setdefault» ⟨[.ref d,key,dflt],[]⟩) (fun _ R s=>∃kvs,s.heap.DictOf knd d kvs/\kvs.length<=sizeLine/\
     (∀v,valueAt kvs k=some v->R (.ok (.ret v)) {s with toks:=s.toks+1})/\
     (valueAt kvs k=none->∀h',h'.DictOf knd d (kvs++[(k,dflt)])->Heap.SameBut d s.heap h'->R (.ok (.ret dflt)) {s with heap:=h',toks:=s.toks+1})):=
 .of_wp fun A R s ⟨kvs,hm,hz,h1,h2⟩=>by
   unfold Builtin.«dict.setdefault»;refine wpAny_bind ?_;unfold Builtin.Dict.keyAndDefault;refine wpAny_bind (wpAny_notOrdered_dict hm.typeIs ?_);show wpAny _ _ (pure (d,key,some dflt)) _ _ s;refine wpAny_pure ?_;show wpAny _ _ (if (d==sysModules)=true then _ else (dictSetDefault d key dflt >>=_)) _ _ s;rw[if_neg (by rw[hd];exact eb1)];obtain ⟨o,es,ep,ho,hc,hdat,hk,hp,hn⟩:=id hm
   have hes:es.size<=sizeLine:=by
     have e1:=hp.length
     have e2:es.toList.length=es.size:=by simp
     omega
   have hf:=hm.mapOf;refine wpAny_bind ?_;unfold dictSetDefault
   try with_reducible refine wpAny_holding ?_
   refine wpAny_bind (knd.pyHash hkey ?_);refine wpAny_bind (wpAny_dictFind_of (s:={s with toks:=s.toks+1}) hkey ho hdat hk ?_)
   have hidx:(es.findIdx? fun e=>knd.is k e.key)=kvs.findIdx? fun kv=>decide (kv.1=k):=by
     rw[<-hp.findIdx k];obtain ⟨l⟩:=es;simp
   have hfb:findBy knd.is es k=valueAt kvs k:=by
     rw[<-hp.find k];obtain ⟨l⟩:=es;simp [findBy]
   rw[findBy_of_findIdx?] at hfb
   cases hi:es.findIdx? fun e=>knd.is k e.key with
   |some i=>
    refine wpAny_bind (wpAny_dictEntries (s:={s with toks:=s.toks+1}) ho hdat ?_)
    cases he:es[i]? with
    |none=>
     exfalso;have:=Array.findIdx?_eq_some_iff_findIdx_eq.mp hi;have hlt:i < es.size:=this.1;rw[es8 hlt] at he
     exact nomatch he
    |some e=>
     refine wpAny_bind (wpAny_rule (wpAny_pure (wpAny_pure ⟨e.val,rfl,h1 e.val ?_⟩)));rw[hi] at hfb;rw[<-hfb];show Option.map _ es[i]? =_;rw[he];rfl
   |none=>
    have hnot:k∉kvs.map (·.1):=not_mem_of_findIdx_none (hidx▸hi)
    have hnone:valueAt kvs k=none:=by rw[hi] at hfb;exact hfb.symm
    refine wpAny_bind (wpAny_rule (wpAny_bind (wpAny_updateDictKeys (hz:=hes) (s:={s with toks:=s.toks+1}) ho hdat (wpAny_pure (wpAny_pure ⟨dflt,rfl,h2 hnone _ ⟨_,_,ep+1,Heap.get?_update_self _ ho (Obj.isFreed_of_dict (Obj.data_mapDictKeys hdat _)),
      hc.mapDictKeys _,Obj.data_mapDictKeys hdat _,hk.push hkey _,?_,?_⟩ (Heap.SameBut.update ..)⟩)))))
    · have:=hp.append hkey (knd.hash k) dflt;obtain ⟨l⟩:=es
      simpa using this
    · rw[dz6,ef7];refine ⟨hn,by simp,?_⟩;intro a ha b hb;simp only[ed3,em6,ea1] at hb;subst hb
      exact fun e=>hnot (e▸ha)
def cf2:V->List V->Hp->VK->Prop:=fun x vs H Q=>∃(d:Addr) (kvs:List (o9×V)) (k:o9) (y:V),x= .ref d/\vs=[kV k,y]/\H d=some (.dK kvs)/\kvs.length < sizeLine/\
 (∀v,C9 kvs k=some v->Q v H)/\(C9 kvs k=none->Q y (c9 H d (.dK (kvs++[(k,y)]))))
theorem cq0:MtM X "dict.setdefault" cf2:=by
 intro pins s σ H x vs v us Q I rx rv h;obtain ⟨d,kvs,k,y,rfl,rfl,hH,hlen,q1,q2⟩:=h;cases rx
 cases rv with
 |cons rk rr=>
  cases rr with
  |cons ry rn=>
   cases rn;obtain ⟨z,hd,ws,rel,dd⟩:=db0 I.hok hH
   refine call_meetsIn PySem.F.slot_dict_setdefault dd.typeIs PySem.F.entry_dict_setdefault (PySem.F.args_dict_setdefault_3 _ _ _) (al6 (E6 X.prog X.w) d (aq4 rk) hd _)
     ⟨ws,dd,by rw[<-rel.length];exact z,fun u hu=> ?_,fun hn h' dd' hs=> ?_⟩
   · have:=rel.val k;rw[hu] at this
     cases hv:C9 kvs k with
     |none=>rw[hv] at this;cases this
     |some v=>
      rw[hv] at this;exact ⟨v,H,I.tok _,this,q1 v hv⟩
   · have hvn:C9 kvs k=none:=by
       have:=rel.val k;rw[hn] at this
       cases hv:C9 kvs k with
       |none=>rfl
       |some v=>rw[hv] at this;cases this
     have he:∃q,h'.get? d=some q:=let ⟨q,_,_,hq,_⟩:=dd';⟨q,hq⟩;have rel':=rel.put k ry
     have hany:¬(ws.any fun kv=>decide (kv.1=k))=true:=by
       rw[ep9];rintro ⟨kv,hkv,hek⟩;unfold valueAt at hn
       cases hf:ws.find? (fun kv=>decide (kv.1=k)) with
       |none=>exact List.find?_eq_none.mp hf kv hkv hek
       |some y=>rw[hf] at hn;cases hn
     rw[aq3 y hvn,stored,if_neg hany] at rel';exact ⟨y,_,ba1 I (by rw[hH];exact True.intro) hs he (co0 (by rw[dz9];exact hlen) hd rel' dd'),ry,q2 hvn⟩
theorem cq1 {o e f:Expr}{to:TE}{t:TA}{apos pos:Pos}(ho:PE X o to)(ha:PA X [e,f] t)
   (hbase:attributeBase o "setdefault" X.env (eval o X.env)=eval o X.env:=by rfl)
   (hfew:((backTo pos (starEach [e,f] X.env)).all (fun x=> !x.1)&&(backToKw pos (keywordEach [] X.env)).all (fun x=>x.1.isSome)
     &&decide ([e,f].length+([]:List Keyword).length+(if ([]:List Keyword).isEmpty then 0 else 1) < 30))=true:=by rfl)
   (hline:(apos.endLine==pos.line)=true:=by rfl) (hs:starEach [e,f] X.env=(false,eval e X.env)::starEach [f] X.env:=by rfl) (hplain:(backTo pos (starEach [f] X.env)).any (·.1)=false:=by rfl):
   PE X (.Call (.Attribute o "setdefault" apos) [e,f] [] pos) (tBM X.K "dict" cf2 to t):=
 aq2 PySem.F.plainAttrs_dict PySem.F.slot_dict_setdefault PySem.F.type_dict_setdefault cq0 ho ha hbase hfew hline hs hplain
end
theorem dd3 (xs:List V)(k j:Nat)(h:k<=xs.length):Y2 xs (some (k:Int)) (some (j:Int))=(xs.drop k).take (min j xs.length - k):=by
 unfold Y2;rw[HT.dx3,HT.dx3,eo9 h]
end L2
namespace Mth
local macro_rules|`(tactic|omega)=>`(tactic|lia)
def y8 (f:Nat->Nat):List Nat->Nat
 |[]=>1
 |x::xs=>f x*y8 f xs
theorem ax3 (f:Nat->Nat):∀xs ys,y8 f (xs++ys)=y8 f xs*y8 f ys
 |[],ys=>by rw[List.nil_append];exact (ev3 _).symm
 |x::xs,ys=>by
  show f x*y8 f (xs++ys)=f x*y8 f xs*y8 f ys;rw[ax3 f xs ys,eg1]
theorem ar7 (f:Nat->Nat)(xs:List Nat)(x:Nat):y8 f (xs++[x])=y8 f xs*f x:=by
 rw[ax3];show y8 f xs*(f x*1)=_;rw[ei6]
theorem ck1 {f:Nat->Nat}{xs ys:List Nat}(h:xs.Perm ys):y8 f xs=y8 f ys:=by
 induction h with
 |nil=>rfl
 |cons x _ ih=>show f x*y8 f _=f x*y8 f _;rw[ih]
 |swap x y l=>show f y*(f x*y8 f l)=f x*(f y*y8 f l);rw[<-eg1,ef5 (f y),eg1]
 |trans _ _ i1 i2=>rw[i1,i2]
theorem bh7 {f:Nat->Nat}:∀{us:List Nat},(∀u∈us,f u=1)->y8 f us=1
 |[],_=>rfl
 |u::us,h=>by
  show f u*y8 f us=1;rw[h u dz7,bh7 fun x hx=>h x (ea0 _ hx)]
theorem bp9 {f:Nat->Nat}:∀{ks us:List Nat},ks.Nodup->us.Nodup->(∀k∈ks,k∈us)->(∀u∈us,u∉ks->f u=1)->y8 f ks=y8 f us
 |[],us,_,_,_,h=>(bh7 fun u hu=>h u hu (by simp)).symm
 |k::ks,us,nk,nu,sub,h=>by
  obtain ⟨nk1,nk2⟩:=ed6.mp nk;have hk:k∈us:=sub k dz7;rw[ck1 (List.perm_cons_erase hk)];show f k*y8 f ks=f k*y8 f (us.erase k)
  have ih:y8 f ks=y8 f (us.erase k):=by
    refine bp9 nk2 (nu.erase k) (fun x hx=> ?_) fun u hu hn=> ?_
    · have hxk:x≠k:=fun e=>nk1 (by rw[<-e];exact hx)
      exact (List.mem_erase_of_ne hxk).mpr (sub x (ea0 _ hx))
    · obtain ⟨h1,h2⟩:=(List.Nodup.mem_erase_iff nu).mp hu
      refine h u h2 fun z=> ?_
      rcases ea8.mp z with e|e
      · exact h1 e
      · exact hn e
  rw[ih]
def w6 (rs:List (List Int))(l:Nat):Nat:=rs.countP fun r=>decide (r.length=l)
theorem bq0 (rs:List (List Int))(r:List Int)(l:Nat):w6 (rs++[r]) l=w6 rs l+if r.length=l then 1 else 0:=by
 unfold w6;rw[List.countP_append,List.countP_singleton]
 by_cases h:r.length=l<;>simp [h]
theorem cf3 {rs:List (List Int)}{l:Nat}(h:w6 rs l≠0):∃r∈rs,r.length=l:=by
 unfold w6 at h;obtain ⟨r,hr,e⟩:=List.countP_pos_iff.mp (Nat.pos_of_ne_zero h);exact ⟨r,hr,of_decide_eq_true e⟩
end Mth
namespace Mth
local macro_rules|`(tactic|omega)=>`(tactic|lia)
structure bx0 (l m d:Nat):Prop where
 parts:d∣m
 rest:ec8 l (m/d)=1
 least:∀e,e∣m->ec8 l (m/e)=1->d∣e
theorem bx0.pos {l m d:Nat}(x:bx0 l m d)(hm:0 < m):0 < d:=by
 rcases el6 d with z|z
 · have:=x.parts;rw[z] at this;have:=Nat.zero_dvd.mp this;omega
 · exact z
structure al7 (l m d:Nat):Prop where
 pos:0 < d
 parts:d∣m
 least:∀e,e∣m->ec8 l (m/e)=1->d∣e
theorem al7.start (l m:Nat):al7 l m 1:=⟨by decide,Nat.one_dvd m,fun e _ _=>Nat.one_dvd e⟩
theorem al7.step {l m d:Nat}(hm:0 < m)(u:al7 l m d):al7 l m (d*ec8 l (m/d)):=by
 obtain ⟨k,rfl⟩:=u.parts;have dp:=u.pos;rw[eh6 k dp]
 have kp:0 < k:=Nat.pos_of_mul_pos_left hm|>fun h=>by
   rcases el6 k with z|z
   · rw[z,eh5] at hm;omega
   · exact z
 refine ⟨eg7 dp (et3 _ kp),Nat.mul_dvd_mul_left d (em0 l k),fun e he hr=> ?_⟩;obtain ⟨f,rfl⟩:=u.least e he hr;have hfk:f∣k:=eq9 dp he;obtain ⟨g,rfl⟩:=hfk
 have fp:0 < f:=by
   rcases el6 f with z|z
   · rw[z,ee5] at kp;omega
   · exact z
 have e1:d*(f*g)/(d*f)=g:=by
   rw[<-eg1,eh6 g (eg7 dp fp)]
 rw[e1] at hr;refine Nat.mul_dvd_mul_left d ?_
 have c:er7 (ec8 l (f*g)) g:=by
   have:er7 l g:=hr;exact er7.coprime_dvd_left (et6 l (f*g)) this
 exact c.dvd_of_dvd_mul_right (em0 l (f*g))
theorem al7.done {l m d:Nat}(u:al7 l m d)(h:ec8 l (m/d)=1):bx0 l m d:=⟨u.parts,h,u.least⟩
theorem al7.more {l m d:Nat}(hm:0 < m)(u:al7 l m d)(h:ec8 l (m/d)≠1):d < d*ec8 l (m/d)/\d*ec8 l (m/d)<=m:=by
 have kp:0 < m/d:=Nat.div_pos (es9 hm u.parts) u.pos;have gp:0 < ec8 l (m/d):=et3 _ kp;have dp:=u.pos;refine ⟨?_,es9 hm (u.step hm).parts⟩
 have:2<=ec8 l (m/d):=by omega
 calc d < d*2:=by omega
   _<=d*ec8 l (m/d):=eq7 d this
def N6 (d l k lane step:Nat):Nat:=lane+d*((step*k)%l)
theorem bx1 {d l x lane:Nat}(hl:lane < d)(h:0 < l):(lane+d*x)%(d*l)=lane+d*(x%l):=by
 have e:lane+d*x=(lane+d*(x%l))+(d*l)*(x/l):=by
   have:=Nat.mod_add_div x l
   calc lane+d*x=lane+d*(x%l+l*(x/l)):=by rw[this]
     _=(lane+d*(x%l))+(d*l)*(x/l):=by rw[er8,<-eg1,eo5]
 rw[e,eo6];refine eg0 ?_;have hx:x%l+1<=l:=eh3 _ h
 calc lane+d*(x%l) < d+d*(x%l):=by omega
   _=d*(x%l+1):=by rw[er8,ei6,eh2]
   _<=d*l:=eq7 d hx
theorem bl2 {d l k lane step:Nat}(hl:lane < d)(h:0 < l):(lane+step*(d*k))%(d*l)=N6 d l k lane step:=by
 have e:step*(d*k)=d*(step*k):=by rw[<-eg1,ef5 step d,eg1]
 rw[e,bx1 hl h];rfl
theorem ao3 {d l k lane step:Nat}(hl:lane < d)(h:0 < l):N6 d l k lane step < d*l:=by
 rw[<-bl2 (k:=k) hl h];exact eh3 _ (eg7 (by omega) h)
theorem cx2 {d l k a b x y:Nat}(ha:a < d)(hb:b < d)(hx:x < l)(hy:y < l)(c:ec8 l k=1)(h:N6 d l k a x=N6 d l k b y):a=b/\x=y:=by
 unfold N6 at h
 have dp:0 < d:=by omega
 have h1:a=b:=by
   have e1:(a+d*((x*k)%l))%d=a:=by rw[eo6];exact eg0 ha
   have e2:(b+d*((y*k)%l))%d=b:=by rw[eo6];exact eg0 hb
   rw[<-e1,<-e2,h]
 subst h1;have h2:(x*k)%l=(y*k)%l:=em1 dp (by omega);refine ⟨rfl,?_⟩
 have key:∀u v,u<=v->v < l->(u*k)%l=(v*k)%l->u=v:=fun u v huv hv e=>by
   have d1:l∣v*k - u*k:=Nat.dvd_of_mod_eq_zero (Nat.sub_mod_eq_zero_of_mod_eq e.symm);rw[<-Nat.sub_mul] at d1;have d2:l∣v - u:=er7.dvd_of_dvd_mul_right c d1
   rcases el6 (v - u) with z|z
   · omega
   · have:=es9 z d2;omega
 rcases Nat.le_total x y with z|z
 · exact key x y z hy h2
 · exact (key y x z hx h2.symm).symm
theorem cq2 {d l k lane step:Nat}(hl:lane < d)(h:0 < l):(N6 d l k lane step+d*k)%(d*l)=N6 d l k lane ((step+1)%l):=by
 have e1:N6 d l k lane step+d*k=lane+d*((step*k)%l+k):=by
   unfold N6;rw[er8,eo5]
 rw[e1,bx1 hl h];unfold N6
 congr 2
 rw[Nat.mod_add_mod,<-ej9,Nat.mul_mod ((step+1)%l),Nat.mod_mod,<-Nat.mul_mod]
end Mth
namespace Mth
local macro_rules|`(tactic|omega)=>`(tactic|lia)
theorem cd0 {r:List Int}(h1:∀x,In r x->In r (nx r x))(h2:∀x,In r x->∃L,0 < L/\it r L x=x):y7 r:=by
 refine bp8 (fun x a b=>h1 x ⟨a,b⟩) fun x y x0 x1 y0 y1 e=> ?_
 obtain ⟨L,L0,hL⟩:=h2 x ⟨x0,x1⟩;obtain ⟨M,M0,hM⟩:=h2 y ⟨y0,y1⟩;have a1:=aw8 hL M;have a2:=aw8 hM L;rw[ef5] at a2;have hp:0 < L*M:=eg7 L0 M0;obtain ⟨N,hN⟩:∃N,L*M=N+1:=⟨L*M - 1,by omega⟩;rw[hN,dd0] at a1 a2;rw[<-a1,<-a2,e]
structure P3 (r J:List Int):Prop where
 ne:J≠[]
 nd:J.Nodup
 lo:∀x∈J,0<=x
 on:∀j,j < J.length->G1 r (J.getD j 0)=some (J.getD ((j+1)%J.length) 0)
theorem P3.in_ {r J:List Int}(h:P3 r J){j:Nat}(hj:j < J.length):In r (J.getD j 0):=by
 have:=h.on j hj;unfold G1 at this;have h1:=(dz2.mp this).1;have h0:=h.lo (J.getD j 0) (by rw[L8 hj];exact ec6 hj);exact ⟨h0,by omega⟩
theorem P3.nx {r J:List Int}(h:P3 r J){j:Nat}(hj:j < J.length):nx r (J.getD j 0)=J.getD ((j+1)%J.length) 0:=by
 have e:=ao2 (h.in_ hj);rw[h.on j hj] at e;exact (Option.some.inj e).symm
theorem P3.it {r J:List Int}(h:P3 r J){j:Nat}(hj:j < J.length):∀i,it r i (J.getD j 0)=J.getD ((j+i)%J.length) 0
 |0=>by rw[eg8,eg0 hj];rfl
 |i+1=>by
  have hm:(j+i)%J.length < J.length:=eh3 _ (by omega);show Mth.nx r (Mth.it r i (J.getD j 0))=_;rw[h.it hj i,h.nx hm,Nat.mod_add_mod,eo5]
theorem P3.per {r J:List Int}(h:P3 r J){j:Nat}(hj:j < J.length):K7 r (J.getD j 0) J.length:=by
 refine ⟨by omega,?_,fun i i0 i1 e=> ?_⟩
 · rw[h.it hj,Nat.add_mod_right,eg0 hj]
 · rw[h.it hj] at e;have hm:(j+i)%J.length < J.length:=eh3 _ (by omega)
   have hne:(j+i)%J.length≠j:=fun z=>by
     rcases eu7 (j+i) J.length with y|y
     · rw[eg0 y] at z;omega
     · have e2:(j+i)%J.length=j+i - J.length:=by
         rw[Nat.mod_eq_sub_mod y,eg0 (by omega)]
       omega
   exact S0 h.nd hm hj hne e
def V2 (d l k:Nat):List Int:=(ed0 (d*l)).map fun i=>((N6 d l k (i/l) (i%l):Nat):Int)
theorem ab9 (d l k:Nat):(V2 d l k).length=d*l:=by unfold V2;rw[dz0,ec5]
theorem ba4 {d l i:Nat}(h:i < d*l):i/l < d:=by
 refine Nat.div_lt_of_lt_mul ?_;rw[ef5];exact h
theorem ar8 {d l k:Nat}(hl:0 < l)(c:ec8 l k=1):y7 (V2 d l k):=by
 refine ⟨?_,fun x hx=> ?_,fun x hx=> ?_⟩
 · unfold V2;rw[ea7,ei3];refine List.Pairwise.imp_of_mem ?_ (ea7.mp (eq0 (n:=d*l)));intro a b ha hb hne e;have ha:=ed1.mp ha;have hb:=ed1.mp hb
   have e':N6 d l k (a/l) (a%l)=N6 d l k (b/l) (b%l):=by omega
   obtain ⟨h1,h2⟩:=cx2 (ba4 ha) (ba4 hb) (eh3 _ hl) (eh3 _ hl) c e';exact hne (by rw[<-eq5 a l,<-eq5 b l,h1,h2])
 · obtain ⟨i,_,rfl⟩:=ea2.mp hx;omega
 · obtain ⟨i,hi,rfl⟩:=ea2.mp hx;rw[ab9];have:=ao3 (k:=k) (step:=i%l) (ba4 (ed1.mp hi)) hl;omega
theorem ar9 {l:Nat}(hl:0 < l):∀{Rs:List (List Int)},(∀r∈Rs,r.length=l)->Rs.flatten.length=Rs.length*l/\∀a b,a < Rs.length->b < l->Rs.flatten[a*l+b]? =(Rs.getD a [])[b]?
 |[],_=>⟨by simp,fun a b h=>by simp at h⟩
 |r::Rs,h=>by
  have hr:=h r dz7
  obtain ⟨i1,i2⟩:=ar9 hl (Rs:=Rs) fun q hq=>h q (ea0 _ hq)
  refine ⟨by rw[ee1,dz9,i1,hr,ee9,ej9,eh2],fun a b ha hb=> ?_⟩;rw[ee1]
  cases a with
  |zero=>
   rw[ee5,ek0,eb6 (by omega)];rfl
  |succ a=>
   rw[ej9,eb9 (by omega),hr]
   have e:a*l+l+b - l=a*l+b:=by omega
   rw[e,i2 a b (by simp only[ee9] at ha;omega) hb];rfl
structure K8 (l k:Nat)(Rs:List (List Int))(J:List Int):Prop where
 len:J.length=Rs.length*l
 at_:(V2 Rs.length l k).map (G1 J)=Rs.flatten.map some
theorem K8.perm {l k:Nat}{Rs:List (List Int)}{J:List Int}(hl:0 < l)(c:ec8 l k=1)(h:K8 l k Rs J):J.Perm Rs.flatten:=
 bh3 (ar8 hl c) (by rw[ab9];exact h.len) h.at_
theorem K8.get {l k:Nat}{Rs:List (List Int)}{J:List Int}(hl:0 < l)(hr:∀r∈Rs,r.length=l)(h:K8 l k Rs J){a b:Nat}(ha:a < Rs.length)(hb:b < l):J.getD (N6 Rs.length l k a b) 0=(Rs.getD a []).getD b 0:=by
 have hi:a*l+b < Rs.length*l:=by
   calc a*l+b < a*l+l:=by omega
     _=(a+1)*l:=by rw[ej9]
     _<=Rs.length*l:=eg9 l ha
 have e:=congrArg (fun z:List (Option Int)=>z[a*l+b]?) h.at_;unfold V2 at e;rw[dz4,dz4,ed8 hi,dz4,(ar9 hl hr).2 a b ha hb] at e
 have d1:(a*l+b)/l=a:=by
   rw[ef5,Nat.mul_add_div hl,Nat.div_eq_of_lt hb,eg8]
 have d2:(a*l+b)%l=b:=by
   rw[ef5,ev1,eg0 hb]
 simp only[em9,d1,d2] at e
 have hra:(Rs.getD a []).length=l:=by
   refine hr _ ?_;rw[dz5,dz1 ha];exact ec6 ha
 rw[dz1 (by omega)] at e;have e:=Option.some.inj e;have hp:=ao3 (k:=k) (step:=b) ha hl;rw[<-h.len] at hp;unfold G1 at e;rw[ee0,dz1 hp] at e;rw[dz5,dz1 hp,dz5,dz1 (show b < (Rs.getD a []).length by omega)]
 simpa using e
def bx2 (p:List Int)(m:Nat)(J:List Int)(x:Int):Prop:=
 ∃(l k:Nat) (Rs:List (List Int)) (a b:Nat) (y:Int),0 < l/\m=Rs.length*k/\ec8 l k=1/\(∀r∈Rs,r.length=l)/\K8 l k Rs J/\a < Rs.length/\b < l/\In p y/\K7 p y l/\Rs.getD a []=j9 p y l/\x=it p b y
theorem dd4 {p r:List Int}{m:Nat}{qs:List (List Int)}(tp:y7 p)(hlen:r.length=p.length)(hq:∀J∈qs,P3 r J)(hx:∀x,In p x->∃J∈qs,bx2 p m J x):y7 r/\D0 r (m:Int) p:=by
 have at_:∀x,In p x->∃J∈qs,∃j,j < J.length/\x=J.getD j 0/\J.getD ((j+m)%J.length) 0=nx p x:=fun x hxi=>by
   obtain ⟨J,hJ,l,k,Rs,a,b,y,l0,rfl,c,hr,hj,ha,hb,hy,py,er,rfl⟩:=hx x hxi;refine ⟨J,hJ,N6 Rs.length l k a b,by rw[hj.len];exact ao3 ha l0,?_,?_⟩
   · rw[hj.get l0 hr ha hb,er,W1 hb]
   · rw[hj.len,cq2 ha l0,hj.get l0 hr ha (eh3 _ l0),er,W1 (eh3 _ l0),aa1 py.back];rfl
 have inr:∀x,In r x↔In p x:=fun x=>by unfold In;rw[hlen]
 have tr:y7 r:=by
   refine cd0 (fun x h=> ?_) fun x h=> ?_
   · obtain ⟨J,hJ,j,hj,rfl,_⟩:=at_ x ((inr x).mp h);rw[(hq J hJ).nx hj];exact (hq J hJ).in_ (eh3 _ (by omega))
   · obtain ⟨J,hJ,j,hj,rfl,_⟩:=at_ x ((inr x).mp h);have:=(hq J hJ).per hj;exact ⟨_,this.pos,this.back⟩
 refine ⟨tr,dl1 tr hlen.symm fun x h L hL=> ?_⟩;obtain ⟨J,hJ,j,hj,rfl,e⟩:=at_ x ((inr _).mp h);have hp:=(hq J hJ).per hj;have:L=J.length:=hL.uniq hp;subst this;exact ⟨m,by simp,by rw[(hq J hJ).it hj,e]⟩
end Mth
namespace Mth
local macro_rules|`(tactic|omega)=>`(tactic|lia)
theorem bx3 {p:List Int}(t:y7 p):∀i,i<=p.length->I0 p i (q9 p i)
 |0,_=>ar3 p
 |i+1,h=>by
  have ih:=bx3 t i (by omega);show I0 p (i+1) (if (i:Int)∈(q9 p i).flatten then q9 p i else q9 p i++[j9 p i (ad2 p i)]);have hx:In p (i:Int):=⟨by omega,by omega⟩
  by_cases hi:(i:Int)∈(q9 p i).flatten
  · rw[if_pos hi];exact ar4 ih hi
  · rw[if_neg hi];obtain ⟨L,hL⟩:=ax0 t hx;rw[bd6 hL];exact ar5 t ih hx hL hi
theorem ah7 {p:List Int}(t:y7 p):I0 p p.length (q9 p p.length):=bx3 t _ (dz3 _)
theorem bh8 {p t:List Int}{k:Int}(tp:y7 p)(h:D0 p k t){x:Int}(hx:In p x){L:Nat}(hL:K7 p x L){m:Nat}(hm:((m:Int) - k)%(L:Int)=0):∀i,it t i x=it p (m*i) x
 |0=>by rw[eh5];rfl
 |i+1=>by
  show nx t (it t i x)=_;rw[bh8 tp h hx hL hm i];obtain ⟨M,hM,e⟩:=cp6 h (P0 tp hx (m*i));have:=(hL.shift tp hx (m*i)).uniq hM;subst this;rw[e m hm,<-J2,eu1,eh2]
theorem dd5 {p t:List Int}{k:Int}(tp:y7 p)(h:D0 p k t){x:Int}(hx:In p x){L:Nat}(hL:K7 p x L){m:Nat}(hm:((m:Int) - k)%(L:Int)=0):K7 t x (L/ec8 L m):=by
 have lp:=hL.pos;have gp:0 < ec8 L m:=Nat.gcd_pos_of_pos_left _ lp;obtain ⟨a,ha⟩:=et6 L m;obtain ⟨b,hb⟩:=em0 L m;have cp:er7 (L/ec8 L m) (m/ec8 L m):=er0 gp;generalize ec8 L m=g at*
 have e1:L/g=a:=by rw[ha,eh6 _ gp]
 have e2:m/g=b:=by rw[hb,eh6 _ gp]
 rw[e1,e2] at cp;rw[e1];refine ⟨?_,?_,fun i i0 i1 e=> ?_⟩
 · rcases el6 a with z|z
   · rw[z] at ha;omega
   · exact z
 · rw[bh8 tp h hx hL hm,hb,show g*b*a=L*b by rw[ha];ac_rfl];exact aw8 hL.back b
 · rw[bh8 tp h hx hL hm] at e;have d:=cf1 hL e;rw[ha,hb,eg1] at d;have d2:a∣b*i:=eq9 gp d;have d3:a∣i:=cp.dvd_of_dvd_mul_left d2;exact absurd (es9 i0 d3) (by omega)
end Mth
namespace Mth
local macro_rules|`(tactic|omega)=>`(tactic|lia)
def K9 (rs:List (List Int))(l:Nat):List (List Int):=rs.filter fun r=>decide (r.length=l)
theorem ba5 (rs:List (List Int))(l:Nat):(K9 rs l).length=w6 rs l:=by unfold K9 w6;rw[eq8]
theorem K8.uniq {l k:Nat}{Rs:List (List Int)}{J J':List Int}(hl:0 < l)(c:ec8 l k=1)(h:K8 l k Rs J)(h':K8 l k Rs J'):J=J':=by
 have e:=h.at_.trans h'.at_.symm
 refine ed7 fun i=> ?_
 by_cases hi:i < Rs.length*l
 · have ip:=ar8 (d:=Rs.length) hl c;have hm:(i:Int)∈V2 Rs.length l k:=ip.perm.mem_iff.mpr (bd4.mpr ⟨by omega,by rw[ab9];omega⟩);obtain ⟨n,hn⟩:=ec1.mp hm;have e2:=congrArg (fun z:List (Option Int)=>z[n]?) e;simp only[dz4,hn,em9] at e2;have e3:=Option.some.inj e2;unfold G1 at e3;rw[ee0] at e3;exact e3
 · rw[ea5 (by rw[h.len];omega),ea5 (by rw[h'.len];omega)]
end Mth
namespace Mth
local macro_rules|`(tactic|omega)=>`(tactic|lia)
theorem dl3 {n c:Int}(hn:1<=n)(hc:0<=c):∃mx,(if (if n < c then n else c) > 1 then (if n < c then n else c) else (1:Int))=mx/\1<=mx/\mx<=n:=by
 refine ⟨_,rfl,?_⟩
 split<;>split at* <;>omega
end Mth
namespace L2
local macro_rules|`(tactic|omega)=>`(tactic|lia)
open PySem PySem.Spec PyProof.Rows
def KI (kvs:List (o9×V))(ns:List Int):Prop:=kvs.map (·.1)=ns.map Sum.inl
theorem bh9:∀{kvs:List (o9×V)} {ns:List Int},KI kvs ns->∀k:Int,k∈ns↔∃v,C9 kvs (Sum.inl k:o9)=some v
 |[],[],_,k=>⟨fun h=>by simp at h,fun ⟨v,h⟩=>by cases h⟩
 |[],n::ns,h,_=>by unfold KI at h;simp at h
 |p::kvs,[],h,_=>by unfold KI at h;simp at h
 |p::kvs,n::ns,h,k=>by
  unfold KI at h;rw[ed3,ed3] at h
  injection h with h1 h2
  by_cases e:n=k
  · have:p.1=(Sum.inl k:o9):=by rw[h1,e]
    rw[K6 this];exact ⟨fun _=>⟨_,rfl⟩,fun _=>by rw[e];exact dz7⟩
  · have:¬p.1=(Sum.inl k:o9):=fun z=>e (by rw[h1] at z;exact Sum.inl.inj z)
    rw[K2 this];constructor
    · intro hm
      rcases ea8.mp hm with z|z
      · exact absurd z.symm e
      · exact (bh9 (show KI kvs ns from h2) k).mp z
    · intro hv;exact ea0 _ ((bh9 (show KI kvs ns from h2) k).mpr hv)
theorem bl3 {kvs:List (o9×V)}{ns:List Int}(h:KI kvs ns){k:Int}(hk:k∉ns):C9 kvs (Sum.inl k:o9)=none:=by
 cases e:C9 kvs (Sum.inl k:o9) with
 |none=>rfl
 |some v=>exact absurd ((bh9 h k).mpr ⟨v,e⟩) hk
theorem dl4 {kvs:List (o9×V)}{ns:List Int}(h:KI kvs ns){k:Int}(hk:k∉ns)(v:V):KI (Q7 kvs (Sum.inl k:o9) v) (ns++[k]):=by
 rw[aq3 v (bl3 h hk)];unfold KI at*;rw[dz6,dz6,h];rfl
theorem dl5 {kvs:List (o9×V)}{ns:List Int}(h:KI kvs ns){k:Int}(hk:k∈ns)(v:V):KI (Q7 kvs (Sum.inl k:o9) v) ns:=by
 obtain ⟨x,hx⟩:=(bh9 h k).mp hk;unfold Q7;rw[ab5,hx,if_pos (show (some x).isSome=true from rfl)];unfold KI at*;rw[<-h,ee4]
 refine ef3 fun p _=> ?_
 show (if p.1=(Sum.inl k:o9) then (p.1,v) else p).1=p.1
 split<;>rfl
theorem cx3 {K:PySem.W.Frag}{a:Addr}{xs:List V}{g:TG}{tc:TT}{te:TE}{σ0:St}{H:Hp}{Q:VK}(Pv:Nat->List V->St->Hp->Prop)(h0:Pv 0 [] σ0 H)(hl:∀i ys σ H,i<=xs.length->Pv i ys σ H->O3 K H a xs)
   (hs:∀i x ys σ H,xs[i]? =some x->Pv i ys σ H->g x σ H fun σ2 H2=>tc σ2 H2 fun b H4=>if b=true then te σ2 H4 fun y H5=>ys.length < sizeLine/\Pv (i+1) (ys++[y]) σ2 H5 else Pv (i+1) ys σ2 H4)
   (hd:∀ys σ H,Pv xs.length ys σ H->∀D,H D=none->Q (.ref D) (c9 H D (.lst ys))):
   bt4 (Itt K a) g tc te Q σ0 H:=by
 refine ⟨fun i m ys σ H=>m=xs.length - i/\i<=xs.length/\Pv i ys σ H,⟨xs.length,by simp,eb4 _,h0⟩,?_⟩;rintro i m ys σ H ⟨rfl,hi,p⟩;have q:=hl i ys σ H hi p
 by_cases hlt:i < xs.length
 · refine .inr ⟨⟨xs,xs[i],q,by simp [hlt]⟩,Pv (i+1),fun ys' σ' H' p'=>⟨xs.length - (i+1),by omega,rfl,hlt,p'⟩,fun x H' y=> ?_⟩;obtain ⟨e,y⟩:=y;subst e;exact hs i x ys σ _ (y xs q) p
 · have e:i=xs.length:=by omega
   subst e;exact .inl ⟨⟨xs,q,dz3 _⟩,hd ys σ H p⟩
end L2
namespace L2
local macro_rules|`(tactic|omega)=>`(tactic|lia)
open PySem PySem.Spec PyProof.Rows
structure XPS (X:Cx)(st:Stmt)(t:TS):Prop where
 h:PS X st t
structure dl6 (X:Cx)(st:List Stmt)(t:TS):Prop where
 h:Z7 X st t
section
variable {X:Cx} {st:Stmt} {rest:List Stmt} {t u:TS}
theorem dd6 (h1:XPS X st t)(h2:Z7 X rest u):dl6 X (st::rest) (t7 t u):=⟨c7 h1.h h2⟩
theorem dl7 (h1:PS X st t)(h2:dl6 X rest u):Z7 X (st::rest) (t7 t u):=c7 h1 h2.h
end
end L2
namespace L2
local macro_rules|`(tactic|omega)=>`(tactic|lia)
open PySem PySem.Spec PyProof.Rows
theorem K5.hide {P:Program}{w:World}{H:Hp}{h:Heap}{as:List Addr}(x:K5 P w H h)(hn:∀b∈as,H b=none):K5 P w H (PySem.W.hideAll h as):=fun a o e=>
 (x a o e).stay (fun b u hb q=>PySem.W.hideAll_get _ q fun hm=>by
   have:=hn b hm
   rcases hb with rfl|hb
   · rw[e] at this;cases this
   · rw[hb] at this;cases this) (fun _ q=>q) fun _ _ q=>q
def CX1 (P:Program)(w:World):CXT:=fun outer H s E e s'=>
 ∃(a t C:Addr) (vs:List Value) (B:Heap) (H':Hp),e= .ref a/\s'.os=s.os/\AllBare s'.gens/\Un (J6 outer) [] H H' s.heap s'.heap/\K5 P w H' B/\
  (∀b o,s.heap.get? b=some o->H b=none->b∉J6 outer->B.get? b=some o)/\(∀b o,s.heap.get? b=some o->b∉J6 outer->∃o',B.get? b=some o')/\
  Heap.FlyingW B outer a (.ref C) (.ref t) s'.heap/\s'.heap.TupAt t vs/\B.get? t=none/\E (.ref C) none H'
theorem bx4 {fs:List Addr}{H0 H1:Hp}{h0 h1 h2 B:Heap}(u:Un fs [] H0 H1 h0 h1)(kb:∀b o,h0.get? b=some o->H0 b=none->b∉fs->B.get? b=some o)(tb:∀b o,h0.get? b=some o->b∉fs->∃o',B.get? b=some o')
   (st:B.StaysIn h2) (up:h1.UpToSlots h2) (fr:∀b∈fs,∀o,h1.get? b=some o->∀vs,o.data≠.fields vs):Un fs [] H0 H1 h0 h2 where
 keep:=fun b o q n hb _=>st b o (kb b o q n hb)
 slot:=fun b o q n hb hx=>by
   obtain ⟨sl,e⟩:=u.slot b o q n hb hx;obtain ⟨sl2,e2⟩:=up b _ e (fr b hb _ e);exact ⟨sl2,e2⟩
 free:=u.free
 there:=fun b o q hx=>by
   by_cases hb:b∈fs
   · obtain ⟨o',e⟩:=u.there b o q hx;obtain ⟨sl,e2⟩:=up b o' e (fr b hb _ e);exact ⟨_,e2⟩
   · obtain ⟨o',e⟩:=tb b o q hb;exact ⟨o',st b o' e⟩
 tups:=u.tups
 frzs:=u.frzs
 tbls:=u.tbls
def cq3 (X:Cx)(E:XK):Prop:=∀(pins:List (Addr×Obj)) (σ:St) (H:Hp) (s:Shared) (h':Heap) (e C:Addr) (vs:List Value),i5 X pins σ H s->Heap.MadeExcOf s.heap h' e (.ref C) vs->E (.ref C) none H->X.xe (.ref e) {s with heap:=h'}
theorem bx5 {X:Cx}{pins:List (Addr×Obj)}{σ:St}{H:Hp}{s:Shared}(I:i5 X pins σ H s):∀b∈J6 X.stack,∀o,s.heap.get? b=some o->∀vs,o.data≠.fields vs:=fun b hb o ho=>by
 obtain ⟨_,o',ho',hn⟩:=I.stack.mem hb;rw[ho] at ho';cases ho';exact hn
section
variable {P:Program} {w:World} {K:PySem.W.Frag} {mg:Str->Option Value} {base:Heap} {N:List Str} {qual:Str} {scope:Scope} {f:Addr} {cd:Value} {A:Around} {outer:List Env} {s₀:Shared} {H₀:Hp} {E E':XK}
theorem ae1 {pins:List (Addr×Obj)}{σ:St}{H:Hp}{s:Shared}(I:i5 (x9 (CX1 P w) P w K mg base N qual scope f cd A outer s₀ H₀ E) pins σ H s){b:Addr}{o:Obj}(h:s₀.heap.get? b=some o)(hb:b∉J6 outer):
   b∉J6 (envOfC qual scope s₀.heap.objs.size f cd::outer):=fun hm=>by
 unfold J6 at hm hb;rw[ej2] at hm;have hf:(envOfC qual scope s₀.heap.objs.size f cd).frame=some s₀.heap.objs.size:=rfl;rw[hf] at hm
 rcases ea8.mp hm with z|z
 · have:=Heap.lt_size h;rw[z] at this;exact absurd this (ek3 _)
 · exact hb z
theorem ax4:cq3 (x9 (CX1 P w) P w K mg base N qual scope f cd A outer s₀ H₀ E) E:=by
 intro pins σ H s h' e C vs I hx hE;show wpAny (model P w) _ (leaving _ (.ref e)) _ _ _
 have hin:∀env∈(envOfC qual scope s₀.heap.objs.size f cd::outer),∀b,env.frame=some b->b∈J6 (envOfC qual scope s₀.heap.objs.size f cd::outer):=fun env he b hb=>er1.mpr ⟨env,he,hb⟩
 have hst:s.heap.FunFrames base (envOfC qual scope s₀.heap.objs.size f cd::outer):=I.stack;have hsf:∀b∈J6 (envOfC qual scope s₀.heap.objs.size f cd::outer),H b=none:=I.stkFree;have hub:Un (J6 outer) [] H₀ H s₀.heap s.heap:=I.base
 refine wpAny_leaves_madeW (base:=PySem.W.hideAll s.heap (J6 (envOfC qual scope s₀.heap.objs.size f cd::outer))) (h:=s.heap) I.ok.frames rfl (fun b o q=>PySem.W.of_hideAll _ q) (PySem.W.funFrames_hide hst hin) hx fun h2 t fl tup tn up=> ?_
 have up':s.heap.UpToSlots h2:=(Heap.UpToSlots.of_keeps hx.keeps).trans up
 have kb:∀b o,s₀.heap.get? b=some o->H₀ b=none->b∉J6 outer->(PySem.W.hideAll s.heap (J6 (envOfC qual scope s₀.heap.objs.size f cd::outer))).get? b=some o:=fun b o q n hb=>
   PySem.W.hideAll_get _ (hub.keep b o q n hb (by simp)) (ae1 I q hb)
 have tb:∀b o,s₀.heap.get? b=some o->b∉J6 outer->∃o',(PySem.W.hideAll s.heap (J6 (envOfC qual scope s₀.heap.objs.size f cd::outer))).get? b=some o':=fun b o q hb=>by
   obtain ⟨o',e'⟩:=hub.there b o q (by simp);exact ⟨o',PySem.W.hideAll_get _ e' (ae1 I q hb)⟩
 refine ⟨e,t,C,vs,_,H,rfl,I.os,I.bare,bx4 hub kb tb fl.1 up' (fun b hb o ho=> ?_),I.hok.hide hsf,kb,tb,fl,tup,tn,hE⟩;exact bx5 I b (by show b∈J6 (envOfC qual scope s₀.heap.objs.size f cd::outer);unfold J6 at hb ⊢;rw[ej2];exact ea0 _ hb) o ho
theorem ax5 (imp:∀c d H,E c d H->E' c d H):aw0 (CX1 P w) (x9 (CX1 P w) P w K mg base N qual scope f cd A outer s₀ H₀ E') E:=by
 intro pins σ H s e s' I h;obtain ⟨a,t,C,vs,B,H',rfl,os,bare,un,hok,kb,tb,fl,tup,tn,hE⟩:=h;show wpAny (model P w) _ (leaving _ (.ref a)) _ _ _;have hub:Un (J6 outer) [] H₀ H s₀.heap s.heap:=I.base;have un':Un (J6 (envOfC qual scope s₀.heap.objs.size f cd::outer)) [] H H' s.heap s'.heap:=un
 have sub:∀b,b∈J6 outer->b∈J6 (envOfC qual scope s₀.heap.objs.size f cd::outer):=fun b hb=>by
   unfold J6 at hb ⊢;rw[ej2];exact ea0 _ hb
 refine wpAny_leaves_onW (L:=s₀.heap.objs.size) I.ok.frames rfl fl fun h2 fl2 up=> ?_
 have kb':∀b o,s₀.heap.get? b=some o->H₀ b=none->b∉J6 outer->B.get? b=some o:=fun b o q n hb=>
   kb b o (hub.keep b o q n hb (by simp)) (hub.free b o q n (by simp)) (ae1 I q hb)
 have tb':∀b o,s₀.heap.get? b=some o->b∉J6 outer->∃o',B.get? b=some o':=fun b o q hb=>by
   obtain ⟨o',e'⟩:=hub.there b o q (by simp);exact tb b o' e' (ae1 I q hb)
 have plain:∀b∈J6 outer,∀o,s'.heap.get? b=some o->∀vs,o.data≠.fields vs:=fun b hb o ho=>by
   obtain ⟨_,o1,ho1,hn⟩:=I.stack.mem (sub b hb);obtain ⟨sl,e1⟩:=un'.slot b o1 ho1 (I.stkFree b (sub b hb)) (sub b hb) (by simp);rw[ho] at e1;cases e1;exact hn
 have unw:Un (J6 outer) [] H₀ H' s₀.heap s'.heap:={
   keep:=fun b o q n hb _=>un'.keep b o (hub.keep b o q n hb (by simp)) (hub.free b o q n (by simp)) (ae1 I q hb) (by simp)
   slot:=fun b o q n hb _=>by
     obtain ⟨sl,e1⟩:=hub.slot b o q n hb (by simp);obtain ⟨sl2,e2⟩:=un'.slot b _ e1 (hub.free b o q n (by simp)) (sub b hb) (by simp);exact ⟨sl2,e2⟩
   free:=fun b o q n _=>by
     obtain ⟨sl,e1⟩:=hub.any q n (by simp);exact un'.free b _ e1 (hub.free b o q n (by simp)) (by simp)
   there:=fun b o q _=>by
     obtain ⟨o',e1⟩:=hub.there b o q (by simp);exact un'.there b o' e1 (by simp)
   tups:=fun b xs q=>un'.tups b xs (hub.tups b xs q)
   frzs:=fun b o u q=>un'.frzs b o u (hub.frzs b o u q)
   tbls:=fun b ps q=>by
     obtain ⟨m1,q1⟩:=hub.tbls b ps q;obtain ⟨m2,q2⟩:=un'.tbls b _ q1
     exact ⟨m1++m2,by rw[q2,Array.append_assoc]⟩}
 exact ⟨a,t,C,vs,B,H',rfl,os.trans I.os,bare,bx4 unw kb' tb' fl2.1 up plain,hok,kb',tb',fl2,tup.of_slots up,tn,imp _ _ _ hE⟩
end
theorem dd7 {K:PySem.W.Frag}{h:Heap}{C:Addr}{bmB:List Value}{newId:String}(X:K.In h)(q:PySem.W.excIn K C bmB newId=true):
   ∃(bm:List Value) (N:Addr) (nm qn:Str) (bs:List Value) (hdct:Bool) (sn:List Str) (sub:List Value) (ab:Bool) (col:Option Bool) (dd:Option Addr) (k0 k1 k2 k3 k5:Option Value) (mN:Str->Option Value),
    K.lookup C=some (excClassObj nm qn C N bs bm hdct sn sub ab col dd k0 k1 k2 k3 k5 newId)/\h.Ns N mN/\mN "__init__"=none/\OwnTail h bmB bm:=by
 unfold PySem.W.excIn at q
 split at q
 · rename_i dd cd sl look
   split at q
   · rename_i C' bm k0 k1 k2 k3 n k5 hmro hsl;rw[ef1,ef1,ef1,ef1,ef1] at q;obtain ⟨⟨⟨⟨⟨q1,q2⟩,q3⟩,q4⟩,q5⟩,q6⟩:=q;have e1:C'=C:=beq_iff_eq.mp q1;have e2:n=newId:=beq_iff_eq.mp q2;subst e1 e2;obtain ⟨nm,bs,mro,ns,qn,hd,sn,sub,ab,col,del⟩:=cd;have e3:mro= .ref C'::bm:=hmro
     have e4:del=false:=by
       cases del with
       |false=>rfl
       |true=>cases q3
     subst e3 e4
     have e5:sl= #[k0,k1,k2,k3,some (.builtin n),k5]:=by
       apply Array.ext'
       exact hsl
     subst e5;exact ⟨bm,ns,nm,qn,bs,hd,sn,sub,ab,col,dd,k0,k1,k2,k3,k5,_,look,.of_isNs (PySem.W.isNs_of_in X q5),PySem.W.nsMap_none_of_in X q5 (beq_iff_eq.mp q6),PySem.W.tail_of_in X q4⟩
   · cases q
 · cases q
abbrev veB:List Value:=[.type "ValueError",.type "Exception",.type "BaseException",.type "object"]
structure Err (K:PySem.W.Frag)(mg:Str->Option Value)(x:Str)(C:Addr):Prop where
 mg:mg x=some (.ref C)
 ex:PySem.W.excIn K C veB "ValueError.__new__"=true
section
variable {X:Cx}
theorem be0 {x:Str}{C:Addr}{E:XK}{e:Expr}{te:TE}{np cpos pos:Pos}(R:cq3 X E)(hc:X.calm=true)(c:Err X.K X.mg x C)(he:PE X e te)(hg:Gl X x:=by rfl)
   (hs:starEach [e] X.env=(false,eval e X.env)::starEach [] X.env:=by rfl) (hd:(x==("__debug__":Str))=false:=by decide):
   PS X (.Raise (some (.Call (.Name x np) [e] [] cpos)) none pos) (fun _ σ H=>te σ H fun _ H1=>E (.ref C) none H1):=by
 intro pins s σ H D I h;obtain ⟨bm,N,nm,qn,bs,hdct,sn,sub,ab,col,dd,k0,k1,k2,k3,k5,mN,hC,hN,hni,T⟩:=dd7 I.ok.mod.kin c.ex
 refine wpAny_Raise_call_subT (C:=C) (nm:=nm) (q:=qn) (N:=N) (bs:=bs) (bm:=bm) (hdct:=hdct) (sn:=sn) (sub:=sub) (ab:=ab) (col:=col) (dd:=dd) (k0:=k0) (k1:=k1) (k2:=k2) (k3:=k3) (k5:=k5)
   PySem.F.excBase_ValueError (mN:=mN) (T.hasType PySem.F.excBase_ValueError.hasBase) (I.ok.hd hc) (by rw[hs];rfl) hni (am9 I hg c.mg ⟨rfl,?_⟩ hd)
 rw[hs];refine Calls.evalArgs_plain (Calls.spliced_cons (q0 (he pins s σ H _ I h) fun v s1 ⟨x,H1,I1,rx,q⟩=>Calls.spliced_nil ?_));exact ⟨rfl,(by show 1<=sizeLine;decide),I1.kIn _ _ hC,hN.keeps I1.bk,T.keeps I1.bk,fun h' e' hm=>R pins σ H1 s1 h' e' C _ I1 hm q⟩
end
section
variable {P:Program} {w:World} {K:PySem.W.Frag} {mg:Str->Option Value} {base:Heap}
theorem n6.lift {k:Nat}{f:Addr}{fd:FuncData}{ps:List Str}{sp:Sp}{CX:CXT}(F:n6 P w K mg base E9 k f fd ps sp):n6 P w K mg base CX k f fd ps sp:=
 ⟨F.len,fun A outer s H args us vs Q E hr e0 hb hv hs=>codeAny_mono (F.run A outer s H args us vs Q E hr e0 hb hv hs) fun r s' h=>by
   cases r with
   |error e=>exact (show False from h).elim
   |ok v=>cases v<;>exact h⟩
theorem n6.or {k:Nat}{f:Addr}{fd:FuncData}{ps:List Str}{sp sp':Sp}{CX:CXT}(F:n6 P w K mg base CX k f fd ps sp)(G:n6 P w K mg base CX k f fd ps sp'):n6 P w K mg base CX k f fd ps (fun vs H Q E=>sp vs H Q E\/sp' vs H Q E):=
 ⟨fun vs H Q E h=>h.elim (F.len vs H Q E) (G.len vs H Q E),fun A outer s H args us vs Q E hr e0 hb hv hs=>hs.elim (F.run A outer s H args us vs Q E hr e0 hb hv) (G.run A outer s H args us vs Q E hr e0 hb hv)⟩
theorem C7.okx {x qual:Str}{st:Stmt}{f:Addr}{fd:FuncData}{N ps:List Str}{k:Nat}{sp:Sp}(F:C7 K x qual st f fd)(S:m9 N ps (j7 st))(len:∀vs H Q E,sp vs H Q E->vs.length=ps.length)
   (hbody:∀(cdv:Value) (A:Around) (outer:List Env) (s:Shared) (H:Hp) (vs:List V) (Q:VK) (E:XK),l9 k (A.deeper (envOfC qual (j7 st) s.heap.objs.size f cdv))->sp vs H Q E->
     ∃t,Z7 (x9 (CX1 P w) P w K mg base N qual (j7 st) f cdv A outer s H E) (Z1 st) t/\t {nx:=fun _ H'=>Q .non H',rt:=Q} (ad1 N vs) H):n6 P w K mg base (CX1 P w) (k+1) f fd ps sp:=by
 obtain ⟨oc,od,kV,doc,pm,an,cdv,ct,osl,rfl,lk,hcd⟩:=F.ex
 exact da7 lk hcd S len fun A outer s H vs Q E hr hsp=>hbody cdv A outer s H vs Q E hr hsp
def ac0 (P:Program)(w:World)(K:PySem.W.Frag)(mg:Str->Option Value)(base:Heap)(x:Str)(k:Nat)(ps:List Str)(sp:Sp):Prop:=
 ∃(f:Addr) (fd:FuncData),mg x=some (.ref f)/\PySem.W.keepIn K (.ref f)=true/\af9 K fd ps []/\n6 P w K mg base (CX1 P w) k f fd ps sp
end
section
variable {X:Cx} {x:Str} {k:Nat} {ps:List Str} {sp:Sp} {e:Expr} {es:List Expr} {t:TA} {p pos:Pos} {E:XK}
theorem bl4 (c:ac0 X.prog X.w X.K X.mg X.base x k ps sp)(hr:l9 k X.A)(hx:aw0 (CX1 X.prog X.w) X E)(ha:PA X (e::es) t)(hg:Gl X x:=by rfl)(hdb:(x==("__debug__":Str))=false:=by decide)
   (he:starEach (e::es) X.env=(false,eval e X.env)::starEach es X.env:=by rfl) (hpl:(backTo pos (starEach es X.env)).any (·.1)=false:=by rfl):PE X (.Call (.Name x p) (e::es) [] pos) (bg6 sp [] E t):=by
 obtain ⟨f,fd,h1,h2,h3,h4⟩:=c;exact ce3 h4 hr hg h1 h2 h3 .nil hx ha hdb he hpl
end
end L2
namespace L2
local macro_rules|`(tactic|omega)=>`(tactic|lia)
open PySem PySem.Spec PyProof.Rows
theorem B9.get {P:Program}{w:World}{H:Hp}{h:Heap}{a:Addr}{o:HO}(x:B9 P w H h a o):∃u,h.get? a=some u:=by
 cases o with
 |lst xs=>obtain ⟨_,_,_,_,e⟩:=x;exact ⟨_,e⟩
 |tup xs=>obtain ⟨_,_,_,ob,e,_⟩:=x;exact ⟨_,e⟩
 |dK kvs=>obtain ⟨_,_,_,_,o,_,_,e,_⟩:=x;exact ⟨_,e⟩
 |dT kvs=>obtain ⟨_,_,_,_,o,_,_,e,_⟩:=x;exact ⟨_,e⟩
 |set S n=>obtain ⟨o,_,_,_,e,_⟩:=x;exact ⟨_,e⟩
 |ins C dx fs=>obtain ⟨_,_,_,e,_⟩:=x;exact ⟨_,e⟩
 |own y=>obtain ⟨_,e⟩:=x;exact ⟨_,e⟩
 |xd fs=>obtain ⟨_,⟨_,_,_,e,_⟩,_⟩:=x;exact ⟨_,e⟩
 |rng lo hi=>obtain ⟨_,_,_,e⟩:=x;exact ⟨_,e⟩
 |frz ob u=>obtain ⟨e,_⟩:=x;exact ⟨_,e⟩
 |tbl ps=>exact ⟨_,show h.get? a=some _ from x⟩
 |met f y=>exact ⟨_,show h.get? a=some _ from x⟩
 |ext φ=>obtain ⟨_,⟨_,e⟩,_⟩:=x;exact ⟨_,e⟩
def bx6 (a C:Addr):HO:= .ext fun h=>∃oe vs,h.get? a=some oe/\oe.cls= .ref C/\oe.data= .fields vs
section
variable {X:Cx} {pins:List (Addr×Obj)} {σ:St} {H H':Hp} {s s':Shared}
theorem dd8 {M:Model}{A:Around}{E:Value->Shared->Prop}{i:Nat}{n:Str}{pos:Pos}{Q:Unit->Shared->Prop}(I:i5 X pins σ H s)(hN:X.N.Nodup)(hi:X.N[i]? =some n)(hk:X.env.kindOf n=some .local)
   (h:∀s',i5 X pins (σ.set i none) H s'->Q () s'):wpAny M A (do bindName X.env n .none;unbindBehindTheSuite X.env n pos) Q E s:=by
 obtain ⟨m,hn,hl⟩:=id I.loc
 have hcls:(X.env.scope.kind== .class||(X.env.scope.kind== .module&&X.env.locals !=X.env.globals))=false:=by rw[I.ok.kind];rfl
 have hiσ:i < σ.length:=by rw[I.len];exact (dz2.mp hi).1
 have cne:=I.cne
 refine wpAny_nameGoes_keeps hk hn hcls fun h' v hn' hs=>h _ ?_
 obtain ⟨oL,_,_,hoL,_⟩:=id hn
 have low:∀b o,X.s₀.heap.get? b=some o->b≠X.env.locals:=fun b o e=>ee3 (ec7 (Heap.lt_size e) I.ok.above)
 refine ⟨I.ok,I.os,I.bare,⟨fun b o e n hb hx=> ?_,fun b o e n hb hx=> ?_,I.base.free,fun b o e hx=> ?_,I.base.tups,I.base.frzs,I.base.tbls⟩,⟨_,hn',fun j y v' e1 e2 e3=> ?_⟩,fun y c e=> ?_,I.free,I.freeC,fun p hp=> ?_,fun b ob e=> ?_,by simpa using I.len⟩
 · exact (hs.2 b (low b o e)).trans (I.base.keep b o e n hb hx)
 · obtain ⟨sl,e1⟩:=I.base.slot b o e n hb hx;exact ⟨sl,(hs.2 b (low b o e)).trans e1⟩
 · obtain ⟨o',e1⟩:=I.base.there b o e hx;exact ⟨o',(hs.2 b (low b o e)).trans e1⟩
 · by_cases hj:j=i
   · subst hj;rw[em7 hiσ] at e2;cases e2
   · rw[eo0 (Ne.symm hj)] at e2;obtain ⟨u',r',q⟩:=hl j y v' e1 e2 e3;refine ⟨u',r',?_⟩
     rcases q with ⟨k,e⟩|⟨k,c,e,z⟩
     · refine .inl ⟨k,?_⟩
       have:y≠n:=fun e=>hj (bd2 hN e1 (e▸hi))
       simp [this,e]
     · exact .inr ⟨k,c,e,z.sameBut hs (cne y c e)⟩
 · obtain ⟨w',z⟩:=I.cell y c e;exact ⟨w',z.sameBut hs (cne y c e)⟩
 · obtain ⟨e,n,ne,nf,d⟩:=I.pin p hp;exact ⟨(hs.2 p.1 ne).trans e,n,ne,nf,d⟩
 · refine (I.hok b ob e).stay (fun c w' hc q=>(hs.2 c ?_).trans q) (fun _ q=>q) fun _ _ q=>q
   rintro rfl
   rcases hc with rfl|hc
   · rw[I.free] at e;cases e
   · rw[I.free] at hc;cases hc
abbrev Cx.marked (X:Cx)(a:Addr):Cx:={X with A:=X.A.mark (some (.ref a)),calm:=false,xe:=fun _ _=>False}
theorem i5.mark (I:i5 X pins σ H s)(a:Addr):i5 (X.marked a) pins σ H s:=
 ⟨⟨I.ok.mod,I.ok.kind,I.ok.glob,I.ok.blt,I.ok.above,I.ok.inj,I.ok.has,I.ok.cab,(fun z=>nomatch z),I.ok.frames,I.ok.stk,I.ok.exf,I.ok.bs,I.ok.bsz,I.ok.noex,I.ok.exfs,I.ok.funs,I.ok.frf⟩,I.os,I.bare,I.base,I.loc,I.cell,I.free,I.freeC,I.pin,I.hok,I.len⟩
theorem i5.unmark {a:Addr}(ok:X.Ok)(I:i5 (X.marked a) pins σ H s):i5 X pins σ H s:=
 ⟨ok,I.os,I.bare,I.base,I.loc,I.cell,I.free,I.freeC,I.pin,I.hok,I.len⟩
theorem i5.trackNew {a:Addr}{o:HO}(I:i5 X pins σ H s)(hn:H a=none)(h0:X.s₀.heap.get? a=none)(hL:a≠X.env.locals)(hc:∀x c,X.env.cells.lookup x=some c->c≠a)(hp:∀p∈X.pn++pins,p.1≠a)(new:B9 X.prog X.w (c9 H a o) s.heap a o):
   i5 X pins σ (c9 H a o) s:=by
 refine ⟨I.ok,I.os,I.bare,⟨I.base.keep,I.base.slot,fun b o' e n hx=> ?_,I.base.there,fun b xs e=> ?_,fun b o' u e=> ?_,fun b ps e=> ?_⟩,I.loc,I.cell,?_,fun x c e=> ?_,fun p hq=> ?_,I.hok.track hn new,I.len⟩
 · rw[g7 (fun z=>by rw[z,h0] at e;cases e)];exact I.base.free b o' e n hx
 · have:=I.base.tups b xs e;rw[g7 (g8 this hn)];exact this
 · have:=I.base.frzs b o' u e;rw[g7 (g8 this hn)];exact this
 · obtain ⟨m,this⟩:=I.base.tbls b ps e;exact ⟨m,by rw[g7 (g8 this hn)];exact this⟩
 · rw[g7 (Ne.symm hL)];exact I.free
 · rw[g7 (hc x c e)];exact I.freeC x c e
 · obtain ⟨e,n,ne,nf,d⟩:=I.pin p hq;exact ⟨e,by rw[g7 (hp p hq)];exact n,ne,nf,d⟩
end
def PX (X:Cx)(st:List Stmt)(t:XK->TS):Prop:=
 ∀(pins:List (Addr×Obj)) (s:Shared) (σ:St) (H:Hp) (D:U3) (E:XK) (E1:Value->Shared->Prop),i5 X pins σ H s->
  (∀(H1:Hp) (s1:Shared) (e:Value) (s':Shared),i5 X pins σ H1 s1->CX1 X.prog X.w X.stack H1 s1 E e s'->E1 e s')->t E D σ H->wpAny (model X.prog X.w) X.A (execs st X.env) (SP X pins D) E1 s
section
variable {X:Cx} {x:Str} {k:Nat} {ps:List Str} {sp:Sp} {e:Expr} {es:List Expr} {t:TA} {p pos:Pos}
theorem PA.any (h:PA X.nox es t)(E1:Value->Shared->Prop):PA (X.wish E1) es t:=fun pos pins s σ H Q I hw=>
 wpAny_mono (h pos pins s σ H Q (I.unwish.wish _) hw) (fun _ _ ⟨v,H',I',r,q⟩=>⟨v,H',I'.unwish.wish E1,r,q⟩) fun _ _ z=>False.elim z
theorem dd9 {pins:List (Addr×Obj)}{σ:St}{H:Hp}{s:Shared}{Q:VK}{E:XK}{E1:Value->Shared->Prop}(c:ac0 X.prog X.w X.K X.mg X.base x k ps sp)(hr:l9 k X.A)(ha:PA X.nox (e::es) t)(I:i5 X pins σ H s)
   (hx:∀(H1:Hp) (s1:Shared) (e:Value) (s':Shared),i5 X pins σ H1 s1->CX1 X.prog X.w X.stack H1 s1 E e s'->E1 e s') (h:bg6 sp [] E t σ H Q) (hg:Gl X x) (hdb:(x==("__debug__":Str))=false)
   (he:starEach (e::es) X.env=(false,eval e X.env)::starEach es X.env) (hpl:(backTo pos (starEach es X.env)).any (·.1)=false):
   wpAny (model X.prog X.w) X.A (eval (.Call (.Name x p) (e::es) [] pos) X.env) (EP X pins σ Q) E1 s:=by
 obtain ⟨f,fd,h1,h2,h3,h4⟩:=c;have Iw:i5 (X.wish E1) pins σ H s:=I.wish E1;refine wpAny_Call_Name_kw (am9 (E:=E1) I hg h1 ?_ hdb);refine PySem.W.callWith_K (h₀:=X.base) I.ok.mod.kin h2 (q0 ((PA.any ha E1) pos pins s σ H _ Iw h) fun us s1 ⟨vs,H1,I1,r,q⟩=>⟨I1.kIn,?_⟩) he hpl;have I1':i5 X pins σ H1 s1:=I1.unwish
 have r2:m7 (vs++[]) us:=by rw[eb8];exact r
 have hl:(us++[]).length=ps.length:=by rw[eb8,<-r2.length];exact h4.len _ _ _ _ q
 have hb:=h3 s1 us I1'.kIn hl;rw[eb8] at hb;refine wpAny_call (codeAny_mono (h4.run X.A X.stack s1 H1 ⟨us,[]⟩ us (vs++[]) Q E hr I1'.env0 hb r2 q) fun rr s' hq=> ?_)
 cases rr with
 |error e=>exact hx H1 s1 e s' I1' hq
 |ok fl=>
  cases fl with
  |ret u=>exact I1'.after hq
  |next=>exact False.elim hq
  |brk=>exact False.elim hq
  |cont=>exact False.elim hq
theorem cq4 {i:Nat}{y:Str}{py sp':Pos}(c:ac0 X.prog X.w X.K X.mg X.base x k ps sp)(hr:l9 k X.A)(hN:X.N.Nodup)(hi:X.N[i]? =some y)(hy:Loc X.env.scope y)(ha:PA X.nox (e::es) t)(hg:Gl X x:=by rfl)(hdb:(x==("__debug__":Str))=false:=by decide)
   (he:starEach (e::es) X.env=(false,eval e X.env)::starEach es X.env:=by rfl) (hpl:(backTo pos (starEach es X.env)).any (·.1)=false:=by rfl)
   (hs:swapsWith (.Call (.Name x p) (e::es) [] pos) (some (.Name y py)) sp'.line X.env=pure false:=by rfl) (hf:X.fn y=true\/X.env.scope.names.lookup y=some .local:=by first|exact .inl rfl|exact .inr rfl|assumption):
   PX X [.Assign [.Name y py] (.Call (.Name x p) (e::es) [] pos) sp'] (fun E D σ H=>bg6 sp [] E t σ H fun v H1=>D.nx (σ.set i (some v)) H1):=by
 intro pins s σ H D E E1 I hx h
 have first:wpAny (model X.prog X.w) X.A (exec (.Assign [.Name y py] (.Call (.Name x p) (e::es) [] pos) sp') X.env) (SP X pins D) E1 s:=
   wpAny_Assign_Name (q0 (dd9 c hr ha I hx h hg hdb he hpl) fun v s1 ⟨y',H1,I1,r1,q1⟩=>ab0 I1 hN hi hy r1 (fun s2 I2=>show SP X pins D .next s2 from ⟨_,H1,I2,q1⟩) hf) hs
 refine wpAny_execs_cons (q0 first fun f s1 q=> ?_)
 cases f with
 |next=>exact wpAny_execs_nil q
 |ret v=>exact q
 |brk=>exact q
 |cont=>exact q
end
section
variable {X:Cx}
def de0 (K:PySem.W.Frag)(T:Addr)(i:Nat)(ts:TS)(D:U3)(σ:St):XK:=fun c _ H'=>
 ∃C,c= .ref C/\PySem.W.exmOne K (.ref C) (.ref T)=some true/\∀a,H' a=none->ts {nx:=fun σ' H''=>D.nx (σ'.set i none) H'',rt:=fun _ _=>False} (σ.set i (some (.ref a))) (c9 H' a (bx6 a C))
theorem cq5 {body:List Stmt}{x n:Str}{T:Addr}{i:Nat}{np hp pos:Pos}{b₀:Stmt}{suite:List Stmt}{tb:XK->TS}{ts:TS}(hb:PX X body tb)(hm:X.mg x=some (.ref T))(hN:X.N.Nodup)(hi:X.N[i]? =some n)(hk:X.env.kindOf n=some .local)
   (hsu:∀a,Z7 (X.marked a) (b₀::suite) ts) (hst:X.stack=X.env::X.outer:=by rfl) (hfr:X.env.frame=some X.env.locals:=by rfl) (hex0:X.ex=[]:=by rfl) (hg:Gl X x:=by rfl) (hdb:(x==("__debug__":Str))=false:=by decide) (hf:X.fn n=true\/X.env.scope.names.lookup n=some .local:=by first|exact .inl rfl|exact .inr rfl|assumption):
   PS X (.Try body [.ExceptHandler (some (.Name x np)) (some n) (b₀::suite) hp] [] [] pos) (fun D σ H=>tb (de0 X.K T i ts D σ) D σ H):=by
 intro pins s σ H D I h;refine wpAny_Try_except (wpAny_mono (hb pins s σ H D _ (fun e s₁=>wpAny (model X.prog X.w) X.A (noteFrame e X.env) (fun _ s₂=>wpAny (model X.prog X.w) X.A (setFlight e none) (fun _ s₃=>wpAny (model X.prog X.w) X.A (handleBy e X.env [.ExceptHandler (some (.Name x np)) (some n) (b₀::suite) hp]) (SP X pins D) X.xe s₃) X.xe s₂) X.xe s₁) I (fun H1 s1 e s' I1 hcx=> ?_) h) (fun f s1 q=> ?_) fun _ _ z=>z)
 · obtain ⟨a,t,C,vs,B,H',rfl,os,bare,un,hok,kb,tb',fl,tup,tn,C',hCe,hex,hts⟩:=hcx;cases hCe;rw[hst] at un fl kb tb'
   have hframes:X.A.frames=some (X.env::X.outer):=by rw[<-hst];exact I1.ok.frames
   have plain:∀b∈J6 (X.env::X.outer),∀o,s'.heap.get? b=some o->∀vs,o.data≠.fields vs:=fun b hb o ho=>by
     obtain ⟨_,o',ho',hn⟩:=fl.2.2.1.mem hb;rw[ho] at ho';cases ho';exact hn
   have notB:B.get? a=none:=fl.2.1
   have notF:a∉J6 (X.env::X.outer):=fun hm=>by
     obtain ⟨oe,ws,he,_,hd,_⟩:=fl.first;exact plain a hm oe he ws hd
   have new1:s1.heap.get? a=none:=by
     cases q:s1.heap.get? a with
     |none=>rfl
     |some o=>
      obtain ⟨o',e'⟩:=tb' a o q notF;rw[notB] at e';cases e'
   have new0:X.s₀.heap.get? a=none:=by
     cases q:X.s₀.heap.get? a with
     |none=>rfl
     |some o=>
      by_cases hx:a∈X.ex
      · rw[hex0] at hx;simp at hx
      · obtain ⟨o',e'⟩:=I1.base.there a o q hx;rw[new1] at e';cases e'
   have hHa:H' a=none:=by
     cases q:H' a with
     |none=>rfl
     |some o=>obtain ⟨u,hu⟩:=(hok a o q).get;rw[notB] at hu;cases hu
   refine wpAny_looks_onW hframes hfr fl fun h₄ held₄ up₄=> ?_
   refine wpAny_landsW held₄ fun h₅ fl₅ up₅=> ?_
   have inv:∀h,B.StaysIn h->s'.heap.UpToSlots h->i5 X pins σ H' {s' with heap:=h}:=fun h st up=>
     I1.call' (ch:=[]) (s':={s' with heap:=h}) os (by rw[hst];exact bx4 un kb tb' st up plain) (hok.kept st) bare (fun b z=>absurd z (by simp))
   have I5:=inv h₅ fl₅.1 (up₄.trans up₅);refine wpAny_handleBy_cons (codeAny_handlers_test (am9 (X:=X.marked a) (E:=_) (I5.mark a) hg hm ?_ hdb)) (by intro q;cases q);obtain ⟨ob,hob,hobc⟩:=fl₅.there;have LT:PySem.W.Looks (model X.prog X.w) h₅ (typeOf (.ref a)) (.ref C):=hobc▸(PySem.W.Looks.ld hob).andThen .now;refine PySem.W.exm_one (M:=model X.prog X.w) (h:=h₅) I5.kIn LT hex _ _ _ _ (fun _ _ q=>q) ?_;refine codeAny_handlers_suite_as ?_
   refine lands_againW fl₅ fun h₆ fl₆ up₆=> ?_
   have I6:=inv h₆ fl₆.1 ((up₄.trans up₅).trans up₆)
   have hLa:a≠X.env.locals:=fun z=>notF (by unfold J6;rw[ej2,hfr];rw[z];exact dz7)
   have hca:∀y c,X.env.cells.lookup y=some c->c≠a:=fun y c e z=>by
     obtain ⟨v,o,ho,_⟩:=I1.cell y c e;rw[z,new1] at ho;cases ho
   have hpa:∀q∈X.pn++pins,q.1≠a:=fun q hq z=>by
     obtain ⟨e,_⟩:=I1.pin q hq;rw[z,new1] at e;cases e
   obtain ⟨oe,ws,he6,hc6,hd6,_⟩:=fl₆.first;have I7:i5 X pins σ (c9 H' a (bx6 a C)) {s' with heap:=h₆}:=I6.trackNew hHa new0 hLa hca hpa ⟨⟨oe,ws,he6,hc6,hd6⟩,⟨oe,he6⟩,fun h1 h2 ⟨o1,v1,q1,q2⟩ st=>⟨o1,v1,st o1 q1,q2⟩⟩;have hts':=hts a hHa;refine ab0 I7 hN hi (.inl hk) (show o5 (.ref a) (.ref a) from rfl) (fun s2 I8=> ?_) hf
   refine wpAny_mono (hsu a pins s2 _ _ _ (I8.mark a) hts') (fun f s3 q=> ?_) fun _ _ z=>False.elim z
   cases f with
   |next=>
    obtain ⟨σ',H'',I9,q⟩:=q
    exact dd8 (I9.unmark I1.ok) hN hi hk fun s4 I10=>show SP X pins D .next s4 from ⟨_,_,I10,q⟩
   |ret v=>obtain ⟨_,_,_,_,_,q⟩:=q;exact q.elim
   |brk=>obtain ⟨_,_,_,q⟩:=q;exact q.elim
   |cont=>obtain ⟨_,_,_,q⟩:=q;exact q.elim
 · cases f with
   |next=>exact wpAny_execs_nil q
   |ret v=>exact q
   |brk=>exact q
   |cont=>exact q
end
end L2
namespace L2
local macro_rules|`(tactic|omega)=>`(tactic|lia)
open PySem PySem.Spec PyProof.Rows PySem.W PySem.Builtin PySem.Builtin.ObjectAttr PySem.Builtin.Getset_descriptor
section
variable {prog:Program} {w:World} {A:Around} {E:Value->Shared->Prop} {s:Shared} {K:PySem.W.Frag} {a C:Addr}
structure bl5 (K:PySem.W.Frag)(C:Addr):Prop where
 ga:PySem.W.findIn K (.ref C) "__getattribute__"=some (some (.builtin "BaseException.__getattribute__"))
 hook:PySem.W.findIn K (.ref C) "__getattr__"=some none
 cls:PySem.W.findIn K (.ref C) "__class__"=some (some (.builtin "object.__class__"))
 get:PySem.W.specialIn K (.builtin "object.__class__") "__get__"=some (some (.builtin "getset_descriptor.__get__"))
 tak:PySem.W.takesIn K (.builtin "object.__class__")=some true
 bex:PySem.W.mroIn K C (.type "BaseException")=some true
 obj:PySem.W.mroIn K C (.type "object")=some true
 isc:∃oc,K.lookup C=some oc/\∃cd,oc.data= .cls cd
theorem bs3 {tp:Value}{R:Result->Shared->Prop}(X:K.In s.heap)(L0:PySem.W.Looks (model prog w) s.heap (typeOf (.ref a)) (.ref C))(hm:PySem.W.mroIn K C (.type "object")=some true)
   (h:R (.ok (.ret (.ref C))) s):codeAny (model prog w) A (.call (.builtin "getset_descriptor.__get__") ⟨[.builtin "object.__class__",.ref a,tp],[]⟩) R s:=by
 obtain ⟨hh,g,dr,t,os⟩:=s;have L1:=looks_mroIn (M:=model prog w) X hm;refine codeAny_call_builtin KF.slot_gs.plain KF.entry_gs (KF.slot_gs.check _ _ _ _ _ _ _ _ KF.type_class (KF.args_gs _ _ _) ?_);unfold Builtin.«getset_descriptor.__get__» descrGet;rw[dga_obj];refine wpAny_bind (wpAny_pure ?_);unfold descrGetter descrCheckInstance descrNameAndClass isInstance;simp only[KF.owner_class]
 repeat lk
 refine ⟨Code.quiet_builtin _ (by decide+kernel),codeAny_builtin KF.entry_class ?_⟩;unfold Builtin.«object.__class__» shownTypeOf
 repeat lk
 exact h
theorem cq6 {M:Model}{nameV:Value}{Q:Unit->Shared->Prop}(X:K.In s.heap)(L0:PySem.W.Looks M s.heap (typeOf (.ref a)) (.ref C))(hm:PySem.W.mroIn K C (.type "BaseException")=some true)
   (hq:Q () s):wpAny M A (checkBuiltinCall "BaseException.__getattribute__" ⟨[.ref a,nameV],[]⟩) Q E s:=by
 obtain ⟨hh,g,dr,t,os⟩:=s;have L1:=looks_mroIn (M:=M) X hm
 have hk:builtinKind "BaseException.__getattribute__"=some .slot:=by decide+kernel
 have hsplit:splitId "BaseException.__getattribute__"=some ("BaseException","__getattribute__"):=by decide+kernel
 have ha:=F.args_bexc_ga (.ref a) nameV;simp only[checkBuiltinCall,hk,hsplit];unfold isInstance
 repeat (first|lk|wp_step)
 exact hq
theorem cq7 {tk:Tok}{Q:Fin->Shared->Prop}(X:K.In s.heap)(L0:PySem.W.Looks (model prog w) s.heap (typeOf (.ref a)) (.ref C))(I:bl5 K C)(hq:Q (.done (.ret (.ref C))) s):
   wpAny (model prog w) A (Builtin.«object.__getattribute__» ⟨[.ref a,.str "__class__" tk],[]⟩) Q E s:=by
 obtain ⟨hh,g,dr,t,os⟩:=s;have L1:=looks_findIn (M:=model prog w) X I.cls;have L2:=looks_specialIn (M:=model prog w) X I.get;have L3:=looks_takesIn (M:=model prog w) X I.tak;unfold Builtin.«object.__getattribute__»
 repeat lk
 refine wpAny_run (bs3 X L0 I.obj ?_)
 repeat (first|exact hq|lk)
theorem bl6 {Q:Option Value->Shared->Prop}(X:K.In s.heap)(L0:PySem.W.Looks (model prog w) s.heap (typeOf (.ref a)) (.ref C))(I:bl5 K C)(h:Q (some (.ref C)) {s with toks:=s.toks+1}):
   wpAny (model prog w) A (getAttr? (.ref a) "__class__") Q E s:=by
 obtain ⟨hh,g,dr,t,os⟩:=s;have L1:=looks_findIn (M:=model prog w) X I.ga;have L2:=looks_findIn (M:=model prog w) X I.hook;have hb:=PySem.F.attrBase_ValueError.ga.bind (.ref a);unfold getAttr? getAttrBy? getAttrBy;refine wpAny_bind (wpAny_mkText (wpAny_bind (wpAny_attempt (wpAny_holding (wpAny_bind (L0.at (wpAny_bind (L1.at ?_))))))))
 dsimp only
 rw[if_neg (show ¬((onTheHeap (Value.ref C)&&Value.builtin "BaseException.__getattribute__"==Value.builtin "object.__getattribute__")=true) from by
   rw[show (Value.builtin "BaseException.__getattribute__"==Value.builtin "object.__getattribute__")=false from by decide+kernel,Bool.and_false];exact eb1)]
 unfold getAttrByItsOwn hookBefore;refine wpAny_bind ?_;rw[if_pos (show onTheHeap (Value.ref C)=true from rfl)];refine L2.at ?_;refine wpAny_bind (wpAny_attempt (wpAny_holding ?_));unfold callGetattribute;rw[if_neg (by simp)];unfold boundAndCalled;rw[hb];refine wpAny_bind (wpAny_pure ?_);refine wpAny_call (codeAny_call_builtin PySem.F.attrBase_ValueError.ga.plain F.entry_bexc_ga (cq6 X L0 I.bex (cq7 X L0 I ?_)));refine handed_on (M:=model prog w) rfl ?_;exact wpAny_pure h
theorem cx4 (I:bl5 K C):PySem.W.KitX K (.ref a) (.ref C) (fun h=>∃oe vs,h.get? a=some oe/\oe.cls= .ref C/\oe.data= .fields vs) where
 ty:=fun M h _ ⟨oe,vs,h1,h2,_⟩=>h2▸(PySem.W.Looks.ld h1).andThen .now
 it:=fun M h X _=>by
   obtain ⟨oc,h1,cd,h2⟩:=I.isc;obtain ⟨c1,c2,c3,c4⟩:=oc
   dsimp only at h2
   subst h2;intro A' Q' E' s' k q;unfold isType loadHead;exact wpAny_bind (wpAny_loadPart (k _ _ (X _ _ h1)) (wpAny_pure q))
 ne:=fun h tp dd its n sl X htp=>by
   obtain ⟨oc,h1,cd,h2⟩:=I.isc
   refine Bool.eq_false_iff.mpr fun q=> ?_
   have e:C=tp:=Value.ref.inj (beq_iff_eq.mp q);subst e;have z:=(X _ _ h1).symm.trans htp;cases z;cases h2
 ca:=fun {prog w A E Q s} X ⟨oe,vs,h1,h2,_⟩ k=>bl6 X (h2▸(PySem.W.Looks.ld h1).andThen .now) I k
end
section
variable {X:Cx}
def db2 (K:PySem.W.Frag):List V->Hp->VK->Prop:=fun xs H Q=>∃a C c u b,xs=[.ref a,c]/\((∃D,c= .ref D/\u=Value.ref D)\/(∃n,c= .ty n/\u=Value.type n))/\H a=some (bx6 a C)/\bl5 K C/\PySem.W.kitOne K (.ref C) u=some b/\Q (.bl b) H
theorem cq8:X7 X (.builtin "isinstance") (db2 X.K):=by
 intro pins s σ H xs us Q I r h;obtain ⟨a,C,c,u,b,rfl,hc,hH,ei,hk,q⟩:=h;obtain ⟨u1,u2,rfl,r1,r2⟩:=bt3 r;cases (show u1=Value.ref a from r1)
 have e2:u2=u:=by
   rcases hc with ⟨D,rfl,rfl⟩|⟨n,rfl,rfl⟩
   · exact r2
   · exact r2
 subst e2;have p:=(show B9 X.prog X.w H s.heap a (bx6 a C) from I.hok a _ hH).1
 exact PySem.W.kia_one (cx4 ei) I.kIn p hk (fun z=>nomatch z) fun tk=>⟨.bl b,H,I.tok tk,rfl,q⟩
theorem Q8 {a b:Expr}{ta:TA}{p pos:Pos}(hm:X.mg "isinstance"=none)(ha:PA X [a,b] ta)(hg:Gl X "isinstance":=by rfl)
 (he:starEach [a,b] X.env=(false,eval a X.env)::starEach [b] X.env:=by rfl) (hpl:(backTo pos (starEach [b] X.env)).any (·.1)=false:=by rfl):
 PE X (.Call (.Name "isinstance" p) [a,b] [] pos) (tCB (db2 X.K) ta):=Y1 cq8 hg hm bw3 ha (by decide) (by decide) he hpl
theorem de1:bootBuiltins "ValueError"=some (.type "ValueError"):=by decide+kernel
theorem de2 {p:Pos}(hm:X.mg "ValueError"=none)(hg:Gl X "ValueError":=by rfl):PE X (.Name "ValueError" p) (tC (.ty "ValueError")):=az8 hg hm de1 rfl
end
theorem de3 {K:PySem.W.Frag}{C D:Addr}{b:Bool}(h1:PySem.W.isClsIn K D=true)(h2:PySem.W.typeIn K (.ref D)=some (.type "type"))(h3:PySem.W.mroIn K C (.ref D)=some b)(hs:C=D->b=true):PySem.W.kitOne K (.ref C) (.ref D)=some b:=by
 unfold PySem.W.kitOne
 by_cases e:C=D
 · rw[if_pos (by rw[e];exact beq_self_eq_true _),hs e]
 · rw[if_neg (fun q=>e (Value.ref.inj (beq_iff_eq.mp q)))];unfold PySem.W.kitCls
   dsimp only
   rw[if_pos (by rw[ef1];exact ⟨h1,by rw[h2];exact beq_self_eq_true _⟩)];exact h3
theorem dl8 {K:PySem.W.Frag}{C:Addr}(h3:PySem.W.mroIn K C (.type "ValueError")=some true):PySem.W.kitOne K (.ref C) (.type "ValueError")=some true:=by
 unfold PySem.W.kitOne;rw[if_neg (fun q=>by cases beq_iff_eq.mp q)];unfold PySem.W.kitCls
 dsimp only
 rw[if_pos (by decide+kernel)];exact h3
theorem de4 {K:PySem.W.Frag}{C T:Addr}{b:Bool}(h0:PySem.W.mroIn K T (.type "BaseException")=some true)(h1:PySem.W.isClsIn K T=true)(h2:PySem.W.typeIn K (.ref T)=some (.type "type"))(h3:PySem.W.mroIn K C (.ref T)=some b):PySem.W.exmOne K (.ref C) (.ref T)=some b:=by
 unfold PySem.W.exmOne;rw[if_pos (show (PySem.W.subIn K (.ref T) (.type "BaseException")==some true)=true from beq_iff_eq.mpr h0)];unfold PySem.W.kitCls
 dsimp only
 rw[if_pos (by rw[ef1];exact ⟨h1,by rw[h2];exact beq_self_eq_true _⟩)];exact h3
theorem de5 {K:PySem.W.Frag}{C:Addr}(ga:PySem.W.findIn K (.ref C) "__getattribute__"=some (some (.builtin "BaseException.__getattribute__")))(hook:PySem.W.findIn K (.ref C) "__getattr__"=some none)(cls:PySem.W.findIn K (.ref C) "__class__"=some (some (.builtin "object.__class__")))
   (get:PySem.W.specialIn K (.builtin "object.__class__") "__get__"=some (some (.builtin "getset_descriptor.__get__"))) (tak:PySem.W.takesIn K (.builtin "object.__class__")=some true) (bex:PySem.W.mroIn K C (.type "BaseException")=some true) (obj:PySem.W.mroIn K C (.type "object")=some true) (isc:PySem.W.isClsIn K C=true):bl5 K C:=
 ⟨ga,hook,cls,get,tak,bex,obj,by
   obtain ⟨cd,h⟩:=ep0.mp (show (PySem.W.clsIn K C).isSome=true from isc);unfold PySem.W.clsIn at h
   split at h
   · rename_i ho;exact ⟨_,ho,_,rfl⟩
   · cases h⟩
structure ax6 (K:PySem.W.Frag)(mg:Str->Option Value)(T:Addr)(cs:List (Str×Addr)):Prop where
 top:mg "TurnError"=some (.ref T)
 err:∀p∈cs,Err K mg p.1 p.2
 inst:∀p∈cs,bl5 K p.2
 exm:∀p∈cs,PySem.W.exmOne K (.ref p.2) (.ref T)=some true
 ve:∀p∈cs,PySem.W.kitOne K (.ref p.2) (.type "ValueError")=some true
 pair:∀p∈cs,∀q∈cs,PySem.W.kitOne K (.ref p.2) (.ref q.2)=some (decide (p.1=q.1))
end L2
namespace L2
local macro_rules|`(tactic|omega)=>`(tactic|lia)
open PySem PySem.Spec PyProof.Rows
section
variable {X:Cx}
def cf4:V->List V->Hp->VK->Prop:=fun x vs H Q=>∃(l:Addr) (ns:List V) (v:V),x= .ref l/\vs=[v]/\O9 v=true/\ns.all O9=true/\H l=some (.lst ns)/\Q (.int ((ns.countP fun i=>Z9 i v:Nat):Int)) H
theorem cq9:MtM X "list.count" cf4:=by
 intro pins s σ H x vs v us Q I rx rv h;obtain ⟨l,ns,k,rfl,rfl,fk,fl,hH,q⟩:=h;cases rx
 cases rv with
 |cons rk rr=>
 rename_i u _;cases rr;obtain ⟨z,its,n,r,hl,e⟩:=I.lstM hH
 refine call_meets F.slot_list_count ⟨_,e,rfl⟩ F.entry_list_count (F.args_list_count_2 _ _)
   (SeqAt.list_countAt l its.toArray n none #[] u (eqU k)) ⟨e,fun y hy=> ?_,?_⟩
 · exact ah1 rk fk r fl y (by simpa using hy)
 · have cnt:∀(ms:List V) (us:List Value),m7 ms us->ms.all O9=true->us.countP (eqU k)=ms.countP fun i=>Z9 i k:=by
     intro ms
     induction ms with
     |nil=>intro us h _;cases h;rfl
     |cons m ms ih=>
      intro us h f;rw[es4,ef1] at f
      cases h with
      |cons h1 h2=>rw[ej0,ej0,ih _ h2 f.2,bg8 h1 f.1]
   rw[show its.toArray.toList.countP (eqU k)=ns.countP fun i=>Z9 i k from cnt ns its r fl];exact ⟨.int _,H,I.tok _,⟨_,rfl⟩,q⟩
def cf5:V->List V->Hp->VK->Prop:=fun x vs H Q=>∃(l:Addr) (ns:List V) (v:V) (j:Nat),x= .ref l/\vs=[v]/\O9 v=true/\ns.all O9=true/\H l=some (.lst ns)/\(∃y,ns[j]? =some y/\Z9 y v=true)/\(∀i y,i < j->ns[i]? =some y->Z9 y v=false)/\ns.length<=1000/\Q (.int j) H
theorem cr0:MtM X "list.index" cf5:=by
 intro pins s σ H x vs v us Q I rx rv h;obtain ⟨l,ns,k,j,rfl,rfl,fk,fl,hH,⟨y,hj,hy⟩,hno,hz,q⟩:=h;cases rx
 cases rv with
 |cons rk rr=>
 rename_i u _;cases rr;obtain ⟨z,its,n,r,hl,e⟩:=I.lstM hH;have hjl:j < ns.length:=(dz2.mp hj).1
 have hjI:j < its.length:=by omega
 have at_:∀m (hm:m < its.length),eqU k its[m]=Z9 (ns[m]'(by omega)) k:=fun m hm=>by
   have e1:ns[m]? =some (ns[m]'(by omega)):=dz1 (by omega);obtain ⟨u1,z1,q1⟩:=r.get e1;rw[dz1 hm] at z1;rw[Option.some.inj z1];exact bg8 q1 (ei2.mp fl _ (ec6 _))
 refine call_meets F.slot_list_index ⟨_,e,rfl⟩ F.entry_list_index (F.args_list_index_2 _ _)
   (SeqAt.list_indexAt l its.toArray n none #[] u (eqU k) j (by simpa using hjI) (by omega) ?_ ?_) ⟨e,fun y hy=> ?_,?_⟩
 · have:eqU k its.toArray[j]=_:=at_ j hjI;rw[this,<-hy,(dz2.mp hj).2]
 · intro m hm hmj
   have hm':m < its.length:=by simpa using hm
   have:eqU k its.toArray[m]=_:=at_ m hm';rw[this];exact hno m _ hmj (dz1 (by omega))
 · exact ah1 rk fk r fl y (by simpa using hy)
 · exact ⟨.int j,H,I.tok _,⟨_,rfl⟩,q⟩
theorem cr1 (K:PySem.W.Frag){o e:Expr}{to:TE}{t:TA}{apos pos:Pos}(ho:PE X o to)(ha:PA X [e] t)(hK:X.K=K:=by rfl)
   (hbase:attributeBase o "count" X.env (eval o X.env)=eval o X.env:=by rfl)
   (hfew:((backTo pos (starEach [e] X.env)).all (fun x=> !x.1)&&(backToKw pos (keywordEach [] X.env)).all (fun x=>x.1.isSome)
     &&decide ([e].length+([]:List Keyword).length+(if ([]:List Keyword).isEmpty then 0 else 1) < 30))=true:=by rfl)
   (hline:(apos.endLine==pos.line)=true:=by rfl) (hs:starEach [e] X.env=(false,eval e X.env)::starEach [] X.env:=by rfl) (hplain:(backTo pos (starEach [] X.env)).any (·.1)=false:=by rfl):
   PE X (.Call (.Attribute o "count" apos) [e] [] pos) (tBM K "list" cf4 to t):=by
 subst hK;exact aq2 PySem.F.plainAttrs_list PySem.F.slot_list_count PySem.F.type_list_count cq9 ho ha hbase hfew hline hs hplain
theorem cr2 (K:PySem.W.Frag){o e:Expr}{to:TE}{t:TA}{apos pos:Pos}(ho:PE X o to)(ha:PA X [e] t)(hK:X.K=K:=by rfl)
   (hbase:attributeBase o "index" X.env (eval o X.env)=eval o X.env:=by rfl)
   (hfew:((backTo pos (starEach [e] X.env)).all (fun x=> !x.1)&&(backToKw pos (keywordEach [] X.env)).all (fun x=>x.1.isSome)
     &&decide ([e].length+([]:List Keyword).length+(if ([]:List Keyword).isEmpty then 0 else 1) < 30))=true:=by rfl)
   (hline:(apos.endLine==pos.line)=true:=by rfl) (hs:starEach [e] X.env=(false,eval e X.env)::starEach [] X.env:=by rfl) (hplain:(backTo pos (starEach [] X.env)).any (·.1)=false:=by rfl):
   PE X (.Call (.Attribute o "index" apos) [e] [] pos) (tBM K "list" cf5 to t):=by
 subst hK;exact aq2 PySem.F.plainAttrs_list PySem.F.slot_list_index PySem.F.type_list_index cr0 ho ha hbase hfew hline hs hplain
end
def ao4:List Expr->Option (List Str)
 |[]=>some []
 | .Constant (.str i) _ _::es=>(ao4 es).map (i:: ·)
 |_::_=>none
def dr1 (ns:List Str):TA:=fun _ H Q=>Q (ns.map V.str) H
def db3 (ns:List Str):TE:=fun _ H Q=>ns.length<=sizeLine/\∀p,H p=none->Q (.ref p) (c9 H p (.lst (ns.map V.str)))
theorem bx7 (i:Str)(j:Nat)(p:Pos)(es:List Expr)(env:Env):starEach (.Constant (.str i) j p::es) env=(false,eval (.Constant (.str i) j p) env)::starEach es env:=rfl
theorem bx8 {X:Cx}:∀(es:List Expr) (ns:List Str),ao4 es=some ns->PA X es (dr1 ns)
 |[],ns,h=>by
  have:ns=[]:=(Option.some.inj h).symm;subst this
  exact fun pos pins s σ H Q I h=>c6 pos pins s σ H Q I h
 |e::es,ns,h=>by
  unfold ao4 at h
  split at h
  · rename_i h0;cases h0
  · rename_i i j p es' heq;cases heq
    cases ho:ao4 es with
    |none=>rw[ho] at h;cases h
    |some ms=>
     rw[ho] at h;cases h
     exact fun pos pins s σ H Q I h=>(c5 (te:=tC (.str i)) ad7 (bx8 es ms ho) (bx7 i j p es X.env)) pos pins s σ H Q I h
  · cases h
theorem cx5 {X:Cx}{pos:Pos}{es:List Expr}(ns:List Str)(h:ao4 es=some ns):PE X (.List es pos) (db3 ns):=fun pins s σ H Q I h'=>o8 (bx8 es ns h) pins s σ H Q I (by
 show (ns.map V.str).length<=sizeLine/\_
 rw[dz0];exact h')
theorem de6 {X:Cx}{i:Nat}{y:Str}{es:List Expr}{py lp sp:Pos}(ns:List Str)(h:ao4 es=some ns)(hN:X.N.Nodup)(hi:X.N[i]? =some y)(hy:Loc X.env.scope y)(hs:swapsWith (.List es lp) (some (.Name y py)) sp.line X.env=pure false:=by rfl)
 (hf:X.fn y=true\/X.env.scope.names.lookup y=some .local:=by first|exact .inl rfl|exact .inr rfl|assumption):
 XPS X (.Assign [.Name y py] (.List es lp) sp) (ci4 (db3 ns) (bt0 i)):=⟨i4 hN hi hy (cx5 ns h) hs hf⟩
end L2
namespace Mth
local macro_rules|`(tactic|omega)=>`(tactic|lia)
theorem bq1 {l m d:Nat}(d1:0 < d):ec8 (d*l) m=d↔d∣m/\ec8 l (m/d)=1:=by
 constructor
 · intro h;have hd:d∣m:=h▸em0 (d*l) m;refine ⟨hd,?_⟩;have e:m=d*(m/d):=(eo7 hd).symm
   have h2:ec8 (d*l) (d*(m/d))=d:=by rw[<-e];exact h
   rw[et7] at h2;exact em1 d1 (by rw[h2,ei6])
 · rintro ⟨hd,h⟩;have e:m=d*(m/d):=(eo7 hd).symm;rw[e,et7,h,ei6]
end Mth
namespace L2
local macro_rules|`(tactic|omega)=>`(tactic|lia)
open PySem PySem.Spec PyProof.Rows
def ck2 (a b:Sp):Sp:=fun vs H Q E=>a vs H Q E\/b vs H Q E
section
variable {P:Program} {w:World} {K:PySem.W.Frag} {mg:Str->Option Value} {base:Heap} {CX:CXT} {k:Nat} {f:Addr} {fd:FuncData} {ps:List Str} {a b:Sp}
theorem dr2 (x:n6 P w K mg base CX k f fd ps a)(y:n6 P w K mg base CX k f fd ps b):n6 P w K mg base CX k f fd ps (ck2 a b):=
 ⟨fun vs H Q E h=>h.elim (x.len vs H Q E) (y.len vs H Q E),fun A outer s H args us vs Q E r e bt v h=>h.elim (x.run A outer s H args us vs Q E r e bt v) (y.run A outer s H args us vs Q E r e bt v)⟩
end
end L2
namespace L2
local macro_rules|`(tactic|omega)=>`(tactic|lia)
open PySem PySem.Spec PyProof.Rows
section
variable {X:Cx} {p pos:Pos} {e:Expr} {t:TA}
theorem de7 (K:PySem.W.Frag)(n:Nat)(hu:X.A.units+n+1 < cLine)(hK:X.K=K:=by rfl):P1 X (compareOp .Eq) (cw3 K n false):=by
 subst hK;exact an8 n hu
end
end L2
namespace L2
local macro_rules|`(tactic|omega)=>`(tactic|lia)
open PySem PySem.Spec PyProof.Rows
section
variable {X:Cx}
theorem cx6 {e:Expr}:PE X e (fun _ _ _=>False):=fun _ _ _ _ _ _ h=>h.elim
end
end L2
namespace HT
local macro_rules|`(tactic|omega)=>`(tactic|lia)
open PySem PySem.Spec PyProof.Rows
open PySem.AutoSeq1
open PySem.MeetsSeq PySem.MeetsSeq2 PySem.MeetsSeq3
theorem bl7 {xs:Array Value}{i:Nat}{x:Value}{r:List Value}(h:xs.toList.drop i=x::r):xs[((i:Nat):Int).toNat]? =some x/\xs.toList.drop (i+1)=r/\i < xs.size:=by
 have hl:i < xs.size:=by
   rcases eu7 i xs.size with z|z
   · exact z
   · rw[List.drop_of_length_le (by simpa using z)] at h;cases h
 refine ⟨?_,?_,hl⟩
 · rw[ee0,<-ee8];have:=congrArg List.head? h;rw[List.head?_drop] at this
   simpa using this
 · have:=congrArg List.tail h;rw[List.tail_drop] at this;exact this
theorem bx9 {xs:Array Value}{i:Nat}(h:xs.toList.drop i=[]):xs[((i:Nat):Int).toNat]? =none/\xs.size<=i:=by
 have hl:xs.size<=i:=by
   have:=congrArg List.length h;rw[ed2] at this;simp at this;omega
 exact ⟨by rw[ee0];simp [hl],hl⟩
abbrev ck3 (h:Heap)(a:Addr)(xs:Array Value)(n:Nat):Prop:=h.get? a=some {cls:= .type "list",dict:=none,data:= .seq xs n,slots:= #[]}
theorem de8 (l b:Addr)(items items2:Array Value)(n n2:Nat):∀(ns ms:List Int) (vs ws:List Value) (i:Nat),IntsAre vs ns->IntsAre ws ms->items.toList.drop i=vs->items2.toList.drop i=ws->i<=items.size->i<=items2.size->
   Meets (Builtin.«list.__eq__.loop» ⟨[.ref l,.ref b,rawInt i,rawInt 0],[]⟩)
     (fun _ R s=>(ck3 s.heap l items n/\ck3 s.heap b items2 n2)/\R (.ok (.ret (.bool (ba0 ns ms)))) s):=by
 intro ns
 induction ns with
 |nil=>
  intro ms vs ws i hv hw e1 e2 i1 i2 prog w A R s h;obtain ⟨h0,g0,d0,k0,o0⟩:=s;obtain ⟨⟨hx,hy⟩,h⟩:=h;cases hv;obtain ⟨g1,z1⟩:=bx9 e1
  wp_walk using wpAny_loadPart' hx,wpAny_loadPart' hy
  rw[g1]
  cases hw with
  |nil=>
   obtain ⟨g2,z2⟩:=bx9 e2
   wp_walk using wpAny_loadPart' hx,wpAny_loadPart' hy
   show R (.ok (.ret (.bool (decide (items.size < items2.size))))) _;rw[decide_eq_false (by omega)];exact h
  |cons c u hw'=>
   obtain ⟨g2,_,z2⟩:=bl7 e2
   wp_walk using wpAny_loadPart' hx,wpAny_loadPart' hy
   show R (.ok (.ret (.bool (decide (items.size < items2.size))))) _;rw[decide_eq_true (by omega)];exact h
 |cons a ns ih=>
  intro ms vs ws i hv hw e1 e2 i1 i2 prog w A R s h;obtain ⟨h0,g0,d0,k0,o0⟩:=s;obtain ⟨⟨hx,hy⟩,h⟩:=h
  cases hv with
  |cons _ t hv'=>
   obtain ⟨g1,d1,z1⟩:=bl7 e1
   wp_walk using wpAny_loadPart' hx,wpAny_loadPart' hy
   rw[g1]
   cases hw with
   |nil=>
    obtain ⟨g2,z2⟩:=bx9 e2;rw[g2]
    wp_walk using wpAny_loadPart' hx,wpAny_loadPart' hy
    show R (.ok (.ret (.bool (decide (items.size < items2.size))))) _;rw[decide_eq_false (by omega)];exact h
   |cons c u hw'=>
    obtain ⟨g2,d2,z2⟩:=bl7 e2;rw[g2];rw[cj0] at h;obtain ⟨e,he,hiff⟩:=cv0 A.in1 ⟨h0,g0,d0,k0,o0⟩ a t c u;refine wpAny_bind (he prog w _ _ ?_)
    cases e with
    |true=>
     rw[if_pos (hiff.mp rfl)] at h
     wp_walk
     rw[show ((i:Int)+1)=((i+1:Nat):Int) from rfl];refine ⟨plainId_quiet plain_eq_loop _,codeAny_builtin entry_eq_loop ?_⟩
     (rw[Around.under_plainId plain_eq_loop _];exact ih _ _ _ (i+1) hv' hw' d1 d2 (by omega) (by omega) prog w A R _ ⟨⟨hx,hy⟩,h⟩)
    |false=>
     rw[if_neg (fun q=>absurd (hiff.mpr q) eb1)] at h;have less:=cv5 A.in1 ⟨h0,g0,d0,k0,o0⟩ a t c u prog w
     wp_walk using wpAny_loadPart' hx,wpAny_loadPart' hy
     rw[g1,g2]
     wp_walk using less
     exact h
theorem dl9 (l b:Addr)(items items2:Array Value)(n n2:Nat)(ns ms:List Int)(hi:IntsAre items.toList ns)(hj:IntsAre items2.toList ms):
   Meets (Builtin.«list.__lt__» ⟨[.ref l,.ref b],[]⟩)
     (fun _ R s=>(ck3 s.heap l items n/\ck3 s.heap b items2 n2)/\R (.ok (.ret (.bool (ba0 ns ms)))) s):=by
 intro prog w A R s h;obtain ⟨h0,g0,d0,k0,o0⟩:=s;obtain ⟨⟨hx,hy⟩,h⟩:=h;have sub:=AutoSeq1.sub_list_list
 wp_walk using wpAny_loadPart' hx,wpAny_loadPart' hy
 refine ⟨plainId_quiet plain_eq_loop _,codeAny_builtin entry_eq_loop ?_⟩
 (rw[Around.under_plainId plain_eq_loop _];exact de8 l b items items2 n n2 ns ms _ _ 0 hi hj rfl rfl (eb4 _) (eb4 _) prog w A R _ ⟨⟨hx,hy⟩,h⟩)
end HT
namespace L2
local macro_rules|`(tactic|omega)=>`(tactic|lia)
open PySem PySem.Spec PyProof.Rows
section
variable {prog:Program} {w:World} {A:Around} {E:Value->Shared->Prop} {s:Shared}
def ak2 (h:Heap)(v:Value)(ns:List Int):Prop:=∃p xs n,v= .ref p/\HT.ck3 h p xs n/\IntsAre xs.toList ns
theorem bi0 {α β:Type}{f:α->Sem β}(g:α->β):∀{vs:List α} {Q:List β->Shared->Prop},(∀v,v∈vs->∀R:β->Shared->Prop,R (g v) s->wpAny (model prog w) A (f v) R E s)->Q (vs.map g) s->wpAny (model prog w) A (vs.mapM f) Q E s
 |[],Q,_,q=>by rw[List.mapM_nil];exact wpAny_pure q
 |v::vs,Q,k,q=>by
  rw[List.mapM_cons];refine wpAny_bind (k v (dz7 ..) _ ?_);refine wpAny_bind (bi0 g (fun u hu=>k u (ea0 _ hu)) ?_);exact wpAny_pure q
theorem by1 {α β:Type}{f:α->Sem β}(g:α->β){vs:List α}{Q:Array β->Shared->Prop}(k:∀v,v∈vs->∀R:β->Shared->Prop,R (g v) s->wpAny (model prog w) A (f v) R E s)(q:Q (vs.map g).toArray s):wpAny (model prog w) A (vs.toArray.mapM f) Q E s:=by
 rw[List.mapM_toArray,map_eq_pure_bind];exact wpAny_bind (bi0 g k (wpAny_pure q))
theorem ck4 (v:Value):firstOfTuple' v=(do
 if (<-typeOf v)!= .type "tuple" then return none
 return (<-Builtin.List.listItems v)[0]?):=rfl
theorem cr3 {v:Value}{ns:List Int}(r:ak2 s.heap v ns){Q:Option Value->Shared->Prop}(k:Q none s):wpAny (model prog w) A (firstOfTuple' v) Q E s:=by
 obtain ⟨p,xs,n,rfl,ox,ix⟩:=r;rw[ck4];refine wpAny_bind (wpAny_typeOf (T:="list") ⟨_,ox,rfl⟩ ?_);rw[if_pos (by decide)];exact wpAny_pure k
theorem cx7 {v:Value}{ns:List Int}(r:ak2 s.heap v ns){Q:Value->Shared->Prop}(k:Q (.type "list") s):wpAny (model prog w) A (typeOf v) Q E s:=by
 obtain ⟨p,xs,n,rfl,ox,ix⟩:=r;exact wpAny_typeOf (T:="list") ⟨_,ox,rfl⟩ k
theorem cr4 {v₁ v₂:Value}{vs:List Value}{Q:SortKind->Shared->Prop}(r:∀v,v∈v₁::v₂::vs->∃ns,ak2 s.heap v ns)(k:Q oneType' s):wpAny (model prog w) A (keyKind' (v₁::v₂::vs).toArray) Q E s:=by
 rw[keyKind'_eq];refine wpAny_bind (by1 (fun _=>none) (fun v hv R q=>by obtain ⟨ns,z⟩:=r v hv;exact cr3 z q) ?_);rw[if_neg (by simp),if_neg (by simp)];rw[oneTypeOnly'_eq];refine wpAny_bind (wpAny_bind (by1 (fun _=>Value.type "list") (fun v hv R q=>by obtain ⟨ns,z⟩:=r v hv;exact cx7 z q) ?_))
 have h0:(List.map (fun _=>Value.type "list") (v₁::v₂::vs)).toArray[0]? =some (Value.type "list"):=by simp
 rw[h0]
 dsimp only
 rw[if_pos (by
   simp only[List.all_toArray,List.all_map,ei2];intro _ _
   rfl)]
 exact wpAny_pure (wpAny_pure k)
theorem bq2 (vs:List Value):(pairsOf vs).map (·.2)=vs.toArray:=by
 apply Array.toList_inj.mp
 rw[et8,pairsOf_toList];exact List.map_snd_zip (dz3 _)
end
end L2
namespace L2
local macro_rules|`(tactic|omega)=>`(tactic|lia)
open PySem PySem.Spec PyProof.Rows
def dr3 (i j:Int):Prop:=0 < j/\j.natAbs < 2^9000
theorem by2 {X:Cx}:P1 X (binaryOp .FloorDiv) (rI dr3 fun i j=> .int (i/j)):=opI fun i j _ _ _ _ _ hc q=>by
 have hp:Builtin.divisionGoesByPylong i j=false:=PyProof.noPylong_of_log2 ((Nat.log2_lt (by have:=hc.1;omega)).mpr hc.2);refine floordiv_int (by have:=hc.1;omega) ?_ (.inl hp);rw[er5 i (by have:=hc.1;omega)];exact q
theorem de9 {K:PySem.W.Frag}{H:Hp}{n:Nat}{a b:Addr}{xs ys:List V}{r:Bool}(ne:a≠b)(ha:h8 K H a xs)(hb:h8 K H b ys)(d:LEq K H n xs ys r):EqD K H (n+1) (.ref a) (.ref b) r:=by
 rcases d with ⟨hl,rfl⟩|⟨e,hl,he,rfl⟩
 · exact .lens ne ha hb hl
 · exact .lists e ne ha hb hl he
theorem cx9 {K:PySem.W.Frag}{H:Hp}{a b:Addr}{r q:List Int}(ha:H a=some (.lst (r.map V.int)))(hb:H b=some (.lst (q.map V.int))):EqD K H 1 (.ref a) (.ref b) (decide (r=q)):=by
 by_cases z:a=b
 · subst z;rw[ha] at hb;rw[decide_eq_true (bc6 (HO.lst.inj (Option.some.inj hb)))];exact .same a
 · exact de9 z (h8.of ha) (h8.of hb) (M7 K H 0 r q)
def bt5 (H:Hp)(r:List Int):Value->Bool
 | .ref a=>decide (U5 H a=r)
 |_=>false
end L2
namespace TS
local macro_rules|`(tactic|omega)=>`(tactic|lia)
open PySem PyProof.Rows
section
variable (rk:Keyed->Nat)
def R (xs:Array Keyed)(i:Nat):Nat:=match xs[i]? with
 |some p=>rk p
 |none=>0
def Up (xs:Array Keyed)(lo hi:Nat):Prop:=∀i j,lo<=i->i<=j->j < hi->R rk xs i<=R rk xs j
def bl8 (xs:Array Keyed)(lo hi:Nat):Prop:=∀i j,lo<=i->i<=j->j < hi->R rk xs j<=R rk xs i
end
def G6 (xs ys:Array Keyed)(lo hi:Nat):Prop:=∀k,k < lo\/hi<=k->ys[k]? =xs[k]?
theorem G6.refl (xs:Array Keyed)(lo hi:Nat):G6 xs xs lo hi:=fun _ _=>rfl
theorem G6.trans {xs ys zs:Array Keyed}{lo hi:Nat}(h:G6 xs ys lo hi)(g:G6 ys zs lo hi):G6 xs zs lo hi:=fun k hk=>(g k hk).trans (h k hk)
theorem G6.wide {xs ys:Array Keyed}{lo hi lo' hi':Nat}(h:G6 xs ys lo hi)(h1:lo'<=lo)(h2:hi<=hi'):G6 xs ys lo' hi':=fun k hk=>h k (by omega)
section
variable {rk:Keyed->Nat}
theorem bl9 {xs ys:Array Keyed}{i j:Nat}(h:xs[i]? =ys[j]?):R rk xs i=R rk ys j:=by unfold R;rw[h]
theorem G6.R {xs ys:Array Keyed}{lo hi k:Nat}(h:G6 xs ys lo hi)(hk:k < lo\/hi<=k):TS.R rk ys k=TS.R rk xs k:=bl9 (h k hk)
theorem G6.up {xs ys:Array Keyed}{lo hi a b:Nat}(h:G6 xs ys lo hi)(u:Up rk xs a b)(hk:b<=lo\/hi<=a):Up rk ys a b:=fun i j h1 h2 h3=>by
 rw[h.R (by omega),h.R (by omega)];exact u i j h1 h2 h3
theorem by3 {xs:Array Keyed}{src d:Nat}(hs:src < xs.size)(hd:d<=src)(k:Nat):
   R rk (bubble xs src d) k=if k=src - d then R rk xs src else if src - d < k/\k<=src then R rk xs (k - 1) else R rk xs k:=by
 have e:=getElem?_bubble hs d hd k
 split
 · rename_i h;rw[if_pos h] at e;exact bl9 e
 · rename_i h;rw[if_neg h] at e
   split
   · rename_i h2;rw[if_pos h2] at e;exact bl9 e
   · rename_i h2;rw[if_neg h2] at e;exact bl9 e
theorem cd1 {xs:Array Keyed}{src d lo hi:Nat}(hs:src < xs.size)(hd:d<=src)(h1:lo<=src - d)(h2:src < hi):G6 xs (bubble xs src d) lo hi:=fun k hk=>by
 rw[getElem?_bubble hs d hd k,if_neg (by omega),if_neg (by omega)]
theorem be1 {xs:Array Keyed}{i j:Nat}(hj:j<=xs.size)(k:Nat):R rk (mirror xs i j ((j - i)/2)) k=if i<=k/\k < j then R rk xs (i+j - 1 - k) else R rk xs k:=by
 have e:=getElem?_mirror_all (i:=i) hj k
 split
 · rename_i h;rw[if_pos h] at e;exact bl9 e
 · rename_i h;rw[if_neg h] at e;exact bl9 e
theorem ad3 {xs:Array Keyed}{i j lo hi:Nat}(hj:j<=xs.size)(h1:lo<=i)(h2:j<=hi):G6 xs (mirror xs i j ((j - i)/2)) lo hi:=fun k hk=>by
 rw[getElem?_mirror_all hj k,if_neg (by omega)]
theorem T0 {xs:Array Keyed}{i j:Nat}(hj:j<=xs.size)(h:∀k,i<=k->k < j->R rk xs k=R rk xs (j - 1))(k:Nat):R rk (mirror xs i j ((j - i)/2)) k=R rk xs k:=by
 rw[be1 hj]
 split
 · rw[h _ (by omega) (by omega),h k (by omega) (by omega)]
 · rfl
end
structure Bs (a0:Array Keyed)(κ:SortKind)(st:SortSt):Prop where
 perm:(arrOf st).Perm a0
 kind:kindOf st=κ
 ok:failedOf st=none
theorem Bs.size {a0:Array Keyed}{κ:SortKind}{st:SortSt}(h:Bs a0 κ st):(arrOf st).size=a0.size:=h.perm.size_eq
theorem Bs.set {a0:Array Keyed}{κ:SortKind}{st:SortSt}(h:Bs a0 κ st){xs:Array Keyed}(hp:xs.Perm (arrOf st)):Bs a0 κ (setArr st xs):=⟨hp.trans h.perm,h.kind,h.ok⟩
theorem Bs.mem {a0:Array Keyed}{κ:SortKind}{st:SortSt}(h:Bs a0 κ st){i:Nat}(hi:i < a0.size):∃p,(arrOf st)[i]? =some p/\p∈a0.toList:=by
 have hi':i < (arrOf st).size:=by rw[h.size];exact hi
 exact ⟨(arrOf st)[i],getElem?_pos _ i hi',(ej8.mp h.perm).mem_iff.mp (by simp)⟩
section
variable {prog:Program} {w:World} {A:Around} {E:Value->Shared->Prop} {s:Shared}
def Cm (prog:Program)(w:World)(A:Around)(s:Shared)(κ:SortKind)(rk:Keyed->Nat)(a0:Array Keyed):Prop:=
 ∀x∈a0.toList,∀y∈a0.toList,∀(Q:Bool->Shared->Prop) (E':Value->Shared->Prop),Q (decide (rk x < rk y)) s->wpAny (model prog w) A (keyLt' κ x.1 y.1) Q E' s
variable {rk:Keyed->Nat} {a0:Array Keyed} {κ:SortKind}
theorem bi1 {st:SortSt}{x y:Keyed}{Q:Option Bool->SortSt->Prop}(C:Cm prog w A s κ rk a0)(hk:kindOf st=κ)(hx:x∈a0.toList)(hy:y∈a0.toList)(h:Q (some (decide (rk x < rk y))) st):
   wpS (model prog w) A E s (lt' x y) Q st:=by
 rw[lt'_eq];refine wpS_bind (wpS_get ?_);rw[hk];exact wpS_bind (wpS_lift (wpAny_attempt (C x hx y hy _ _ ⟨rfl,wpS_pure h⟩)))
theorem ag5 {st:SortSt}{i j:Nat}{Q:Option Bool->SortSt->Prop}(C:Cm prog w A s κ rk a0)(B:Bs a0 κ st)(hi:i < a0.size)(hj:j < a0.size)(h:Q (some (decide (R rk (arrOf st) i < R rk (arrOf st) j))) st):
   wpS (model prog w) A E s (ltAt' i j) Q st:=by
 obtain ⟨x,ex,mx⟩:=B.mem hi;obtain ⟨y,ey,my⟩:=B.mem hj;rw[ltAt'_eq];refine wpS_bind (wpS_get ?_);show wpS _ _ _ _ (do let u <-elem' (arrOf st) i;let v <-elem' (arrOf st) j;lt' u v) Q st;rw[elem'_eq,elem'_eq,ex,ey];refine wpS_bind (wpS_pure (wpS_bind (wpS_pure (bi1 C B.kind mx my ?_))));unfold R at h;rw[ex,ey] at h;exact h
theorem bi2 {st:SortSt}{i j:Nat}{Q:Unit->SortSt->Prop}(h:Q () (setArr st (mirror (arrOf st) i j ((j - i)/2)))):wpS (model prog w) A E s (reverseSlice' i j) Q st:=by
 rw[reverseSlice'_eq];exact wpS_modify h
theorem dm0 {st:SortSt}{lo n ok:Nat}{Q:Bool->SortSt->Prop}(C:Cm prog w A s κ rk a0)(hn:lo+n<=a0.size)(hok:ok<=n)(B:Bs a0 κ st)(hs:Up rk (arrOf st) lo (lo+ok))
   (h:∀st',Bs a0 κ st'->Up rk (arrOf st') lo (lo+n)->G6 (arrOf st) (arrOf st') lo (lo+n)->pendingOf st'=pendingOf st->Q true st'):wpS (model prog w) A E s (binarySort' lo n ok) Q st:=by
 rw[binarySort'_eq]
 refine wpS_bind (wpS_mono (wpS_forRange (I:=fun k c t=>c=(none,())/\Bs a0 κ t/\Up rk (arrOf t) lo (lo+min k n)/\G6 (arrOf st) (arrOf t) lo (lo+n)/\pendingOf t=pendingOf st)
   (Q:=fun c t=>c=(none,())/\Bs a0 κ t/\Up rk (arrOf t) lo (lo+n)/\G6 (arrOf st) (arrOf t) lo (lo+n)/\pendingOf t=pendingOf st) ?step ?fin ?init) ?post)
 case post=>
   rintro c t ⟨rfl,B',u,k,p⟩;exact wpS_pure (h t B' u k p)
 case init=>
   refine ⟨rfl,B,fun i j h1 h2 h3=> ?_,G6.refl _ _ _,rfl⟩
   by_cases z:ok=0
   · have:i=j:=by omega
     rw[this];exact dz3 _
   · exact hs i j h1 h2 (by omega)
 case fin=>
   rintro c t ⟨hc,B',u,k,p⟩;refine ⟨hc,B',?_,k,p⟩
   rwa [show min (max (max ok 1) n) n=n by omega] at u
 case step=>
   rintro k c t h1 h2 ⟨rfl,B',u,kp,pe⟩;rw[show min k n=k by omega] at u
   refine wpS_bind (wpS_mono (wpS_forRange (I:=fun x c t'=>t'=t/\∃l r,c=(none,l,r)/\l<=r/\r<=k/\r - l<=k - x/\
       (∀i,i < l->R rk (arrOf t) (lo+i)<=R rk (arrOf t) (lo+k))/\(∀i,r<=i->i < k->R rk (arrOf t) (lo+k) < R rk (arrOf t) (lo+i)))
     (Q:=fun c t'=>t'=t/\∃l r,c=(none,l,r)/\l<=k/\(∀i,i < l->R rk (arrOf t) (lo+i)<=R rk (arrOf t) (lo+k))/\(∀i,l<=i->i < k->R rk (arrOf t) (lo+k) < R rk (arrOf t) (lo+i))) ?st2 ?fin2 ?init2) ?post2)
   case init2=>exact ⟨rfl,0,k,rfl,by omega,by omega,by omega,fun i hi=>by omega,fun i h1 h2=>by omega⟩
   case fin2=>
     rintro c t' ⟨rfl,l,r,rfl,a1,a2,a3,a4,a5⟩
     have:l=r:=by omega
     subst this;exact ⟨rfl,l,l,rfl,a2,a4,a5⟩
   case st2=>
     rintro x c t' _ hx ⟨rfl,l,r,rfl,a1,a2,a3,a4,a5⟩
     dsimp only
     by_cases z:l≥r
     · rw[if_pos z]
       have:l=r:=by omega
       subst this;exact wpS_pure ⟨rfl,l,l,rfl,a2,a4,a5⟩
     · rw[if_neg z];refine wpS_bind (ag5 C B' (by omega) (by omega) ?_)
       by_cases y:R rk (arrOf t') (lo+k) < R rk (arrOf t') (lo+(l+r)/2)
       · simp only[y,decide_true,if_true];refine wpS_pure ⟨rfl,l,(l+r)/2,rfl,by omega,by omega,by omega,a4,fun i b1 b2=> ?_⟩;have:=u (lo+(l+r)/2) (lo+i) (by omega) (by omega) (by omega);omega
       · simp only[y,decide_false,ei8,if_false];refine wpS_pure ⟨rfl,(l+r)/2+1,r,rfl,by omega,by omega,by omega,fun i b1=> ?_,a5⟩;have:=u (lo+i) (lo+(l+r)/2) (by omega) (by omega) (by omega);omega
   case post2=>
     rintro c t' ⟨rfl,l,r,rfl,a1,a2,a3⟩;show wpS _ _ _ _ (do moveDown' (lo+k) (lo+l);pure (ForInStep.yield (none,()))) _ _;rw[moveDown'_eq]
     have hz:lo+k < (arrOf t').size:=by rw[B'.size];omega
     refine wpS_bind (wpS_modify (wpS_pure ⟨rfl,B'.set (bubble_perm _ _ _),?_,kp.trans (cd1 hz (by omega) (by omega) (by omega)),pe⟩));rw[show min (k+1) n=k+1 by omega];intro i j b1 b2 b3;show R rk (bubble (arrOf t') (lo+k) (lo+k - (lo+l))) i<=R rk (bubble (arrOf t') (lo+k) (lo+k - (lo+l))) j
     have f1:∀i,lo<=i->i < lo+l->R rk (arrOf t') i<=R rk (arrOf t') (lo+k):=fun i c1 c2=>by have:=a2 (i - lo) (by omega);rwa [show lo+(i - lo)=i by omega] at this
     have f2:∀i,lo+l<=i->i < lo+k->R rk (arrOf t') (lo+k) < R rk (arrOf t') i:=fun i c1 c2=>by have:=a3 (i - lo) (by omega) (by omega);rwa [show lo+(i - lo)=i by omega] at this
     rw[by3 hz (by omega),by3 hz (by omega),show lo+k - (lo+k - (lo+l))=lo+l by omega]
     repeat' split
     all_goals first
       |(exfalso;omega)
       |exact dz3 _
       |exact f1 _ (by omega) (by omega)
       |exact eg2 (f2 _ (by omega) (by omega))
       |exact u _ _ (by omega) (by omega) (by omega)
end
end TS
namespace TS
local macro_rules|`(tactic|omega)=>`(tactic|lia)
open PySem PyProof.Rows
section
variable {prog:Program} {w:World} {A:Around} {E:Value->Shared->Prop} {s:Shared}
variable {rk:Keyed->Nat} {a0:Array Keyed} {κ:SortKind}
theorem cr5 {xs:Array Keyed}{lo x:Nat}(u:Up rk xs lo (lo+x))(x1:1<=x)(h:¬R rk xs (lo+x) < R rk xs (lo+x - 1)):Up rk xs lo (lo+(x+1)):=fun i j h1 h2 h3=>by
 by_cases hj:j < lo+x
 · exact u i j h1 h2 hj
 · have e:j=lo+x:=by omega
   subst e
   by_cases hi:i=lo+x
   · rw[hi];exact dz3 _
   · have:=u i (lo+x - 1) h1 (by omega) (by omega);omega
theorem ai0 {xs:Array Keyed}{lo x:Nat}(u:bl8 rk xs lo (lo+x))(x1:1<=x)(h:R rk xs (lo+x)<=R rk xs (lo+x - 1)):bl8 rk xs lo (lo+(x+1)):=fun i j h1 h2 h3=>by
 by_cases hj:j < lo+x
 · exact u i j h1 h2 hj
 · have e:j=lo+x:=by omega
   subst e
   by_cases hi:i=lo+x
   · rw[hi];exact dz3 _
   · have:=u i (lo+x - 1) h1 (by omega) (by omega);omega
def cy0 (a0:Array Keyed)(κ:SortKind)(rk:Keyed->Nat)(lo nrem:Nat)(st:SortSt)(r:Option Nat)(t:SortSt):Prop:=
 ∃m,r=some m/\Bs a0 κ t/\1<=m/\m<=nrem/\Up rk (arrOf t) lo (lo+m)/\G6 (arrOf st) (arrOf t) lo (lo+nrem)/\pendingOf t=pendingOf st
theorem dm1 {st:SortSt}{lo nrem:Nat}(C:Cm prog w A s κ rk a0)(hn:lo+nrem<=a0.size)(n1:1<=nrem)(B:Bs a0 κ st):wpS (model prog w) A E s (countRun' lo nrem) (cy0 a0 κ rk lo nrem st) st:=by
 rw[countRun'_eq]
 refine wpS_bind (wpS_mono (wpS_forRange (I:=fun x c t=>t=st/\c=(none,x)/\Up rk (arrOf st) lo (lo+x))
   (Q:=fun c t=>t=st/\∃n,c=(none,n)/\1<=n/\n<=nrem/\Up rk (arrOf st) lo (lo+n)/\(n=nrem\/R rk (arrOf st) (lo+n) < R rk (arrOf st) (lo+n - 1))) ?step ?fin
   ⟨rfl,rfl,fun i j h1 h2 h3=>by rw[show i=j by omega];exact dz3 _⟩) ?post)
 case fin=>
   rintro c t ⟨rfl,rfl,u⟩;rw[show max 1 nrem=nrem by omega] at u ⊢;exact ⟨rfl,nrem,rfl,n1,dz3 _,u,.inl rfl⟩
 case step=>
   rintro x c t x1 xn ⟨rfl,rfl,u⟩
   dsimp only
   refine wpS_bind (ag5 C B (by omega) (by omega) ?_)
   by_cases y:R rk (arrOf t) (lo+x) < R rk (arrOf t) (lo+x - 1)
   · simp only[y,decide_true,if_true];exact wpS_pure ⟨rfl,x,rfl,x1,by omega,u,.inr y⟩
   · simp only[y,decide_false,ei8,if_false];exact wpS_pure ⟨rfl,rfl,cr5 u x1 y⟩
 case post=>
   rintro c t ⟨rfl,n,rfl,m1,mn,u,hor⟩
   dsimp only
   by_cases z:n=nrem
   · rw[if_pos (by simpa using z)];exact wpS_pure ⟨n,rfl,B,m1,mn,u,G6.refl _ _ _,rfl⟩
   · rw[if_neg (by simpa using z)];have lt:=hor.resolve_left z
     suffices D:∀t',Bs a0 κ t'->bl8 rk (arrOf t') lo (lo+(n+1))->G6 (arrOf t) (arrOf t') lo (lo+nrem)->pendingOf t'=pendingOf t->wpS (model prog w) A E s _ (cy0 a0 κ rk lo nrem t) t' by
       by_cases g:n > 1
       · rw[if_pos g];refine wpS_bind (ag5 C B (by omega) (by omega) ?_)
         by_cases y:R rk (arrOf t) lo < R rk (arrOf t) (lo+n - 1)
         · simp only[y,decide_true,if_true];exact wpS_pure ⟨n,rfl,B,m1,mn,u,G6.refl _ _ _,rfl⟩
         · simp only[y,decide_false,ei8,if_false]
           have hz:lo+n<=(arrOf t).size:=by rw[B.size];omega
           have all:∀k,lo<=k->k < lo+n->R rk (arrOf t) k=R rk (arrOf t) (lo+n - 1):=fun k h1 h2=>by
             have a1:=u lo k (by omega) h1 h2;have a2:=u k (lo+n - 1) h1 (by omega) (by omega);omega
           refine wpS_bind (bi2 (D _ (B.set (mirror_perm _ _ _ _)) ?_ (ad3 hz (dz3 _) (by omega)) rfl));refine ai0 (fun i j h1 h2 h3=> ?_) m1 ?_
           · show R rk (mirror (arrOf t) _ _ _) j<=R rk (mirror (arrOf t) _ _ _) i;rw[T0 hz all,T0 hz all,all i h1 (by omega),all j (by omega) h3];exact dz3 _
           · show R rk (mirror (arrOf t) _ _ _) _<=R rk (mirror (arrOf t) _ _ _) _;rw[T0 hz all,T0 hz all];omega
       · rw[if_neg g];refine D _ B (ai0 (fun i j h1 h2 h3=>by rw[show i=j by omega];exact dz3 _) m1 (by omega)) (G6.refl _ _ _) rfl
     intro t1 B1 d1 k1 p1;refine wpS_bind (wpS_lift (wpAny_rule ⟨rfl,?_⟩))
     refine wpS_bind (wpS_mono (wpS_forRange (I:=fun x c t'=>∃q,c=(none,x,q)/\Bs a0 κ t'/\bl8 rk (arrOf t') lo (lo+x)/\q+1<=x/\(∀i,lo+x - (q+1)<=i->i < lo+x->R rk (arrOf t') i=R rk (arrOf t') (lo+x - 1))/\G6 (arrOf t) (arrOf t') lo (lo+nrem)/\pendingOf t'=pendingOf t)
       (Q:=fun c t'=>∃x q,c=(none,x,q)/\n+1<=x/\x<=nrem/\Bs a0 κ t'/\bl8 rk (arrOf t') lo (lo+x)/\q+1<=x/\(∀i,lo+x - (q+1)<=i->i < lo+x->R rk (arrOf t') i=R rk (arrOf t') (lo+x - 1))/\G6 (arrOf t) (arrOf t') lo (lo+nrem)/\pendingOf t'=pendingOf t) ?step2 ?fin2
       ⟨0,rfl,B1,d1,by omega,(fun i h1 h2=>by rw[show i=lo+(n+1) - 1 by omega]),k1,p1⟩) ?post2)
     case fin2=>
       rintro c t' ⟨q,rfl,B',d,q1,al,k,p⟩;rw[show max (n+1) nrem=nrem by omega] at d q1 al ⊢;exact ⟨nrem,q,rfl,by omega,dz3 _,B',d,q1,al,k,p⟩
     case step2=>
       rintro x c t' x1 xn ⟨q,rfl,B',d,q1,al,k,p⟩
       dsimp only
       have hz:lo+x<=(arrOf t').size:=by rw[B'.size];omega
       refine wpS_bind (ag5 C B' (by omega) (by omega) ?_)
       by_cases y:R rk (arrOf t') (lo+x) < R rk (arrOf t') (lo+x - 1)
       · simp only[y,decide_true,if_true]
         by_cases g:q > 0
         · rw[if_pos g];refine wpS_bind (bi2 (wpS_pure ⟨0,rfl,B'.set (mirror_perm _ _ _ _),?_,by omega,(fun i h1 h2=>by rw[show i=lo+(x+1) - 1 by omega]),k.trans (ad3 hz (by omega) (by omega)),p⟩));refine ai0 (fun i j h1 h2 h3=> ?_) (by omega) ?_
           · show R rk (mirror (arrOf t') _ _ _) j<=R rk (mirror (arrOf t') _ _ _) i;rw[T0 hz al,T0 hz al];exact d i j h1 h2 h3
           · show R rk (mirror (arrOf t') _ _ _) _<=R rk (mirror (arrOf t') _ _ _) _;rw[T0 hz al,T0 hz al];omega
         · rw[if_neg g];exact wpS_pure ⟨0,rfl,B',ai0 d (by omega) (by omega),by omega,(fun i h1 h2=>by rw[show i=lo+(x+1) - 1 by omega]),k,p⟩
       · simp only[y,decide_false,ei8,if_false];refine wpS_bind (ag5 C B' (by omega) (by omega) ?_)
         by_cases g:R rk (arrOf t') (lo+x - 1) < R rk (arrOf t') (lo+x)
         · simp only[g,decide_true,if_true];exact wpS_pure ⟨x,q,rfl,x1,by omega,B',d,q1,al,k,p⟩
         · simp only[g,decide_false,ei8,if_false]
           have e:R rk (arrOf t') (lo+x)=R rk (arrOf t') (lo+x - 1):=by omega
           refine wpS_pure ⟨q+1,rfl,B',ai0 d (by omega) (by omega),by omega,fun i h1 h2=> ?_,k,p⟩;rw[show lo+(x+1) - 1=lo+x by omega]
           by_cases hi:i=lo+x
           · rw[hi]
           · rw[e];exact al i (by omega) (by omega)
     case post2=>
       rintro c t2 ⟨x,q,rfl,x1,xn,B2,d,q1,al,k2,p2⟩
       dsimp only
       have hz:lo+x<=(arrOf t2).size:=by rw[B2.size];omega
       suffices T:∀t3,Bs a0 κ t3->bl8 rk (arrOf t3) lo (lo+x)->G6 (arrOf t) (arrOf t3) lo (lo+nrem)->pendingOf t3=pendingOf t->wpS (model prog w) A E s _ (cy0 a0 κ rk lo nrem t) t3 by
         by_cases g:q > 0
         · rw[if_pos g];refine wpS_bind (bi2 (T _ (B2.set (mirror_perm _ _ _ _)) (fun i j h1 h2 h3=> ?_) (k2.trans (ad3 hz (by omega) (by omega))) p2));show R rk (mirror (arrOf t2) _ _ _) j<=R rk (mirror (arrOf t2) _ _ _) i;rw[T0 hz al,T0 hz al];exact d i j h1 h2 h3
         · rw[if_neg g];exact T _ B2 d k2 p2
       intro t3 B3 d3 k3 p3
       have hz3:lo+x<=(arrOf t3).size:=by rw[B3.size];omega
       refine wpS_bind (bi2 ?_);have B4:=B3.set (mirror_perm (arrOf t3) lo (lo+x) ((lo+x - lo)/2))
       have u4:Up rk (arrOf (setArr t3 (mirror (arrOf t3) lo (lo+x) ((lo+x - lo)/2)))) lo (lo+x):=fun i j h1 h2 h3=>by
         show R rk (mirror (arrOf t3) _ _ _) i<=R rk (mirror (arrOf t3) _ _ _) j;rw[be1 hz3,be1 hz3,if_pos (by omega),if_pos (by omega)];exact d3 _ _ (by omega) (by omega) (by omega)
       have k4:G6 (arrOf t) (arrOf (setArr t3 (mirror (arrOf t3) lo (lo+x) ((lo+x - lo)/2)))) lo (lo+nrem):=k3.trans (ad3 hz3 (dz3 _) (by omega));have p4:pendingOf (setArr t3 (mirror (arrOf t3) lo (lo+x) ((lo+x - lo)/2)))=pendingOf t:=p3;generalize setArr t3 (mirror (arrOf t3) lo (lo+x) ((lo+x - lo)/2))=t4 at B4 u4 k4 p4 ⊢;refine wpS_bind (wpS_mono (wpS_forRange (I:=fun y c t'=>t'=t4/\c=(none,y)/\Up rk (arrOf t4) lo (lo+y)) (Q:=fun c t'=>t'=t4/\∃y,c=(none,y)/\x<=y/\y<=nrem/\Up rk (arrOf t4) lo (lo+y)) ?step3 ?fin3 ⟨rfl,rfl,u4⟩) ?post3)
       case fin3=>
         rintro c t' ⟨rfl,rfl,v⟩;rw[show max x nrem=nrem by omega] at v ⊢;exact ⟨rfl,nrem,rfl,xn,dz3 _,v⟩
       case step3=>
         rintro y c t' y1 yn ⟨rfl,rfl,v⟩
         dsimp only
         refine wpS_bind (ag5 C B4 (by omega) (by omega) ?_)
         by_cases g:R rk (arrOf t') (lo+y) < R rk (arrOf t') (lo+y - 1)
         · simp only[g,decide_true,if_true];exact wpS_pure ⟨rfl,y,rfl,y1,by omega,v⟩
         · simp only[g,decide_false,ei8,if_false];exact wpS_pure ⟨rfl,rfl,cr5 v (by omega) g⟩
       case post3=>
         rintro c t' ⟨rfl,y,rfl,y1,yn,v⟩;exact wpS_pure ⟨y,rfl,B4,by omega,yn,v,k4,p4⟩
end
end TS
namespace TS
local macro_rules|`(tactic|omega)=>`(tactic|lia)
open PySem PyProof.Rows
def gal:Bool->Keyed->Array Keyed->Nat->Nat->Nat->StateT SortSt Sem (Option Nat):=sortPriv%PySem.Builtin.gallop
section
variable {prog:Program} {w:World} {A:Around} {E:Value->Shared->Prop} {s:Shared}
variable {rk:Keyed->Nat} {a0:Array Keyed} {κ:SortKind}
def J4 (rk:Keyed->Nat)(left:Bool)(key:Keyed)(arr:Array Keyed)(base i:Nat):Bool:=if left then decide (R rk arr (base+i) < rk key) else !decide (rk key < R rk arr (base+i))
theorem V3 {left:Bool}{key:Keyed}{arr:Array Keyed}{base n i j:Nat}(u:Up rk arr base (base+n))(h1:i<=j)(h2:j < n)(h:J4 rk left key arr base j=true):J4 rk left key arr base i=true:=by
 have:=u (base+i) (base+j) (by omega) (by omega) (by omega);unfold J4 at h ⊢;cases left
 · simp at h ⊢;omega
 · simp at h ⊢;omega
theorem G3 {arr:Array Keyed}{i:Nat}{st:SortSt}{Q:Keyed->SortSt->Prop}{p:Keyed}(h:arr[i]? =some p)(q:Q p st):wpS (model prog w) A E s (elem' arr i) Q st:=by
 rw[elem'_eq,h];exact wpS_pure q
def In0 (a0 arr:Array Keyed):Prop:=∀x∈arr.toList,x∈a0.toList
theorem In0.at {arr:Array Keyed}(h:In0 a0 arr){i:Nat}(hi:i < arr.size):∃p,arr[i]? =some p/\p∈a0.toList:=⟨arr[i],getElem?_pos _ i hi,h _ (by simp)⟩
theorem M1 {arr:Array Keyed}{i:Nat}{p:Keyed}(h:arr[i]? =some p):R rk arr i=rk p:=by unfold R;rw[h]
theorem ao5 {st:SortSt}{left:Bool}{key:Keyed}{arr:Array Keyed}{base n hint:Nat}{Q:Option Nat->SortSt->Prop}(C:Cm prog w A s κ rk a0)(hk:kindOf st=κ)(ia:In0 a0 arr)(ik:key∈a0.toList)(hz:base+n<=arr.size)(hh:hint < n)
   (u:Up rk arr base (base+n)) (h:∀k,k<=n->(∀i,i < k->J4 rk left key arr base i=true)->(∀i,k<=i->i < n->J4 rk left key arr base i=false)->Q (some k) st):wpS (model prog w) A E s (gal left key arr base n hint) Q st:=by
 have by0:∀(i:Nat) (Q':Option Bool->SortSt->Prop),i < n->Q' (some (J4 rk left key arr base i)) st->wpS (model prog w) A E s (do let x <-elem' arr (base+i);if left then lt' x key else return (<-lt' key x).map (!·)) Q' st:=by
   intro i Q' hi q;obtain ⟨p,e,m⟩:=ia.at (show base+i < arr.size by omega);refine wpS_bind (G3 e ?_);unfold J4 at q;rw[M1 e] at q
   cases left with
   |true=>
    rw[if_pos rfl] at q ⊢;exact bi1 C hk m ik q
   |false=>
    rw[if_neg (by decide)] at q ⊢;exact wpS_bind (bi1 C hk ik m (wpS_pure q))
 refine wpS_bind (by0 hint _ hh ?_)
 cases hr:J4 rk left key arr base hint with
 |true=>
  dsimp only
  rw[if_pos rfl]
  refine wpS_bind (wpS_mono (wpS_forRange (I:=fun x c t=>t=st/\∃l o,c=(none,l,o)/\l < o/\l < n - hint/\x+1<=o/\J4 rk left key arr base (hint+l)=true)
    (Q:=fun c t=>t=st/\∃l o,c=(none,l,o)/\l < o/\l < n - hint/\J4 rk left key arr base (hint+l)=true/\(n - hint<=o\/J4 rk left key arr base (hint+o)=false)) ?step ?fin ⟨rfl,0,1,rfl,by omega,by omega,by omega,hr⟩) ?post)
  case fin=>
    rintro c t ⟨rfl,l,o,rfl,a1,a2,a3,a4⟩;exact ⟨rfl,l,o,rfl,a1,a2,a4,.inl (by omega)⟩
  case step=>
    rintro x c t _ xn ⟨rfl,l,o,rfl,a1,a2,a3,a4⟩
    dsimp only
    by_cases z:o≥n - hint
    · rw[if_pos z];exact wpS_pure ⟨rfl,l,o,rfl,a1,a2,a4,.inl z⟩
    · rw[if_neg z];refine wpS_bind (by0 (hint+o) _ (by omega) ?_)
      cases y:J4 rk left key arr base (hint+o) with
      |true=>
       dsimp only
       rw[if_neg (by decide)];exact wpS_pure ⟨rfl,_,_,rfl,by omega,by omega,by omega,y⟩
      |false=>
       dsimp only
       rw[if_pos (by decide)];exact wpS_pure ⟨rfl,l,o,rfl,a1,a2,a4,.inr y⟩
  case post=>
    rintro c t ⟨ht,l,o,rfl,a1,a2,a3,a4⟩;obtain rfl:=ht.symm
    dsimp only
    have le1:hint+l+1<=hint+min o (n - hint):=by omega
    have le2:hint+min o (n - hint)<=n:=by omega
    have b1:∀i,i < hint+l+1->J4 rk left key arr base i=true:=fun i h1=>V3 u (show i<=hint+l by omega) (by omega) a3
    have b2:∀i,hint+min o (n - hint)<=i->i < n->J4 rk left key arr base i=false:=fun i h1 h2=>by
      rcases a4 with a4|a4
      · omega
      · cases y':J4 rk left key arr base i with
        |false=>rfl
        |true=>rw[V3 u (show hint+o<=i by omega) h2 y'] at a4;cases a4
    refine wpS_bind (wpS_mono (wpS_forRange (I:=fun x c t=>t=st/\∃lo hi,c=(none,lo,hi)/\lo<=hi/\hi<=n/\hi - lo<=n - x/\(∀i,i < lo->J4 rk left key arr base i=true)/\(∀i,hi<=i->i < n->J4 rk left key arr base i=false))
      (Q:=fun c t=>t=st/\∃lo hi,c=(none,lo,hi)/\hi<=n/\(∀i,i < hi->J4 rk left key arr base i=true)/\(∀i,hi<=i->i < n->J4 rk left key arr base i=false)) ?stepB ?finB ⟨rfl,_,_,rfl,le1,le2,by omega,b1,b2⟩) ?postB)
    case finB=>
      rintro c t ⟨rfl,lo,hi,rfl,a1,a2,a3,a4,a5⟩;rw[show lo=hi by omega] at a4;exact ⟨rfl,lo,hi,rfl,a2,a4,a5⟩
    case stepB=>
      rintro x c t _ xn ⟨rfl,lo,hi,rfl,a1,a2,a3,a4,a5⟩
      dsimp only
      by_cases z:lo≥hi
      · rw[if_pos z];rw[show lo=hi by omega] at a4;exact wpS_pure ⟨rfl,lo,hi,rfl,a2,a4,a5⟩
      · rw[if_neg z];refine wpS_bind (by0 (lo+(hi - lo)/2) _ (by omega) ?_)
        cases y:J4 rk left key arr base (lo+(hi - lo)/2) with
        |true=>
         dsimp only
         rw[if_pos rfl];exact wpS_pure ⟨rfl,_,_,rfl,by omega,a2,by omega,fun i h1=>V3 u (show i<=lo+(hi - lo)/2 by omega) (by omega) y,a5⟩
        |false=>
         dsimp only
         rw[if_neg (by decide)];refine wpS_pure ⟨rfl,_,_,rfl,by omega,by omega,by omega,a4,fun i h1 h2=> ?_⟩
         cases y':J4 rk left key arr base i with
         |false=>rfl
         |true=>rw[V3 u h1 h2 y'] at y;cases y
    case postB=>
      rintro c t ⟨rfl,lo,hi,rfl,a1,a2,a3⟩;exact wpS_pure (h hi a1 a2 a3)
 |false=>
  dsimp only
  rw[if_neg (by decide)]
  refine wpS_bind (wpS_mono (wpS_forRange (I:=fun x c t=>t=st/\∃l o,c=(none,l,o)/\l < o/\l < hint+1/\x+1<=o/\J4 rk left key arr base (hint - l)=false)
    (Q:=fun c t=>t=st/\∃l o,c=(none,l,o)/\l < o/\l < hint+1/\J4 rk left key arr base (hint - l)=false/\(hint+1<=o\/J4 rk left key arr base (hint - o)=true)) ?step ?fin ⟨rfl,0,1,rfl,by omega,by omega,by omega,hr⟩) ?post)
  case fin=>
    rintro c t ⟨rfl,l,o,rfl,a1,a2,a3,a4⟩;exact ⟨rfl,l,o,rfl,a1,a2,a4,.inl (by omega)⟩
  case step=>
    rintro x c t _ xn ⟨rfl,l,o,rfl,a1,a2,a3,a4⟩
    dsimp only
    by_cases z:o≥hint+1
    · rw[if_pos z];exact wpS_pure ⟨rfl,l,o,rfl,a1,a2,a4,.inl z⟩
    · rw[if_neg z];refine wpS_bind (by0 (hint - o) _ (by omega) ?_)
      cases y:J4 rk left key arr base (hint - o) with
      |false=>
       dsimp only
       rw[if_neg (by decide)];exact wpS_pure ⟨rfl,_,_,rfl,by omega,by omega,by omega,y⟩
      |true=>
       dsimp only
       rw[if_pos rfl];exact wpS_pure ⟨rfl,l,o,rfl,a1,a2,a4,.inr y⟩
  case post=>
    rintro c t ⟨ht,l,o,rfl,a1,a2,a3,a4⟩;obtain rfl:=ht.symm
    dsimp only
    have le1:hint+1 - min o (hint+1)<=hint - l:=by omega
    have le2:hint - l<=n:=by omega
    have b1:∀i,i < hint+1 - min o (hint+1)->J4 rk left key arr base i=true:=fun i h1=>by
      rcases a4 with a4|a4
      · omega
      · exact V3 u (show i<=hint - o by omega) (by omega) a4
    have b2:∀i,hint - l<=i->i < n->J4 rk left key arr base i=false:=fun i h1 h2=>by
      cases y':J4 rk left key arr base i with
      |false=>rfl
      |true=>rw[V3 u h1 h2 y'] at a3;cases a3
    refine wpS_bind (wpS_mono (wpS_forRange (I:=fun x c t=>t=st/\∃lo hi,c=(none,lo,hi)/\lo<=hi/\hi<=n/\hi - lo<=n - x/\(∀i,i < lo->J4 rk left key arr base i=true)/\(∀i,hi<=i->i < n->J4 rk left key arr base i=false))
      (Q:=fun c t=>t=st/\∃lo hi,c=(none,lo,hi)/\hi<=n/\(∀i,i < hi->J4 rk left key arr base i=true)/\(∀i,hi<=i->i < n->J4 rk left key arr base i=false)) ?stepB ?finB ⟨rfl,_,_,rfl,le1,le2,by omega,b1,b2⟩) ?postB)
    case finB=>
      rintro c t ⟨rfl,lo,hi,rfl,a1,a2,a3,a4,a5⟩;rw[show lo=hi by omega] at a4;exact ⟨rfl,lo,hi,rfl,a2,a4,a5⟩
    case stepB=>
      rintro x c t _ xn ⟨rfl,lo,hi,rfl,a1,a2,a3,a4,a5⟩
      dsimp only
      by_cases z:lo≥hi
      · rw[if_pos z];rw[show lo=hi by omega] at a4;exact wpS_pure ⟨rfl,lo,hi,rfl,a2,a4,a5⟩
      · rw[if_neg z];refine wpS_bind (by0 (lo+(hi - lo)/2) _ (by omega) ?_)
        cases y:J4 rk left key arr base (lo+(hi - lo)/2) with
        |true=>
         dsimp only
         rw[if_pos rfl];exact wpS_pure ⟨rfl,_,_,rfl,by omega,a2,by omega,fun i h1=>V3 u (show i<=lo+(hi - lo)/2 by omega) (by omega) y,a5⟩
        |false=>
         dsimp only
         rw[if_neg (by decide)];refine wpS_pure ⟨rfl,_,_,rfl,by omega,by omega,by omega,a4,fun i h1 h2=> ?_⟩
         cases y':J4 rk left key arr base i with
         |false=>rfl
         |true=>rw[V3 u h1 h2 y'] at y;cases y
    case postB=>
      rintro c t ⟨rfl,lo,hi,rfl,a1,a2,a3⟩;exact wpS_pure (h hi a1 a2 a3)
end
end TS
namespace TS
local macro_rules|`(tactic|omega)=>`(tactic|lia)
open PySem PyProof.Rows
section
variable {rk:Keyed->Nat}
def Le (rk:Keyed->Nat)(x y:Keyed):Prop:=rk x<=rk y
section
variable {le:Keyed->Keyed->Prop}
def M5 (le:Keyed->Keyed->Prop)(l:List Keyed):Prop:=l.Pairwise le
structure Mi (le:Keyed->Keyed->Prop)(a b out:List Keyed)(i j:Nat):Prop where
 pm:out.Perm (a.take i++b.take j)
 up:M5 le out
 ba:∀x∈out,∀y∈a.drop i,le x y
 bb:∀x∈out,∀y∈b.drop j,le x y
theorem Z3 {l m:List Keyed}:M5 le (l++m)↔M5 le l/\M5 le m/\∀x∈l,∀y∈m,le x y:=List.pairwise_append
theorem ai1 {l:List Keyed}(h:M5 le l)(i:Nat):M5 le (l.drop i):=List.Pairwise.sublist (List.drop_sublist i l) h
theorem ba6 {l:List Keyed}{i:Nat}{x:Keyed}(h:l[i]? =some x):l.drop i=x::l.drop (i+1):=by
 obtain ⟨hi,e⟩:=dz2.mp h;rw[ei4 hi,e]
theorem bm0 {l:List Keyed}{i:Nat}{x:Keyed}(h:l[i]? =some x):l.take (i+1)=l.take i++[x]:=by rw[ev7,h];rfl
theorem ac1 (rf:∀x,le x x){l:List Keyed}(s:M5 le l){i:Nat}{x:Keyed}(h:l[i]? =some x):∀y∈l.drop i,le x y:=fun y hy=>by
 have:=ai1 s i;rw[ba6 h] at this hy
 rcases ea8.mp hy with e|e
 · rw[e];exact rf _
 · exact (er2.mp this).1 y e
theorem Mi.pushA (rf:∀x,le x x){a b out:List Keyed}{i j:Nat}{x:Keyed}(h:Mi le a b out i j)(sa:M5 le a)(hx:a[i]? =some x)(hb:∀y∈b.drop j,le x y):Mi le a b (out++[x]) (i+1) j:=by
 have da:=ba6 hx
 have mx:x∈a.drop i:=by rw[da];exact dz7
 refine ⟨?_,?_,?_,?_⟩
 · rw[bm0 hx,eb3];refine (h.pm.append_right [x]).trans ?_;rw[eb3];exact List.Perm.append_left _ eh4
 · refine Z3.mpr ⟨h.up,ek8 _ _,fun y hy z hz=> ?_⟩;rw[ea1.mp hz];exact h.ba y hy x mx
 · intro y hy z hz
   have hz':z∈a.drop i:=by rw[da];exact ea0 _ hz
   rcases ea3.mp hy with e|e
   · exact h.ba y e z hz'
   · rw[ea1.mp e];exact ac1 rf sa hx z hz'
 · intro y hy z hz
   rcases ea3.mp hy with e|e
   · exact h.bb y e z hz
   · rw[ea1.mp e];exact hb z hz
theorem Mi.pushB (rf:∀x,le x x){a b out:List Keyed}{i j:Nat}{x:Keyed}(h:Mi le a b out i j)(sb:M5 le b)(hx:b[j]? =some x)(ha:∀y∈a.drop i,le x y):Mi le a b (out++[x]) i (j+1):=by
 have db:=ba6 hx
 have mx:x∈b.drop j:=by rw[db];exact dz7
 refine ⟨?_,?_,?_,?_⟩
 · rw[bm0 hx,<-eb3];exact h.pm.append_right [x]
 · refine Z3.mpr ⟨h.up,ek8 _ _,fun y hy z hz=> ?_⟩;rw[ea1.mp hz];exact h.bb y hy x mx
 · intro y hy z hz
   rcases ea3.mp hy with e|e
   · exact h.ba y e z hz
   · rw[ea1.mp e];exact ha z hz
 · intro y hy z hz
   have hz':z∈b.drop j:=by rw[db];exact ea0 _ hz
   rcases ea3.mp hy with e|e
   · exact h.bb y e z hz'
   · rw[ea1.mp e];exact ac1 rf sb hx z hz'
theorem by4 {l:List Keyed}{i k:Nat}{x:Keyed}(h:l[i+k]? =some x):(l.take (i+(k+1))).drop i=(l.take (i+k)).drop i++[x]:=by
 have hl:=(dz2.mp h).1;rw[show i+(k+1)=(i+k)+1 by omega,bm0 h,List.drop_append_of_le_length (by rw[eb2];omega)]
theorem Mi.manyA (rf:∀x,le x x){a b out:List Keyed}{i j:Nat}(h:Mi le a b out i j)(sa:M5 le a):∀k,i+k<=a.length->(∀n x,n < k->a[i+n]? =some x->∀y∈b.drop j,le x y)->Mi le a b (out++(a.take (i+k)).drop i) (i+k) j
 |0,_,_=>by rw[eg8,el2 (by rw[eb2];omega),eb8];exact h
 |k+1,hl,hc=>by
  have e:a[i+k]? =some a[i+k]:=dz1 (by omega);rw[by4 e,<-eb3,show i+(k+1)=i+k+1 by omega];exact (Mi.manyA rf h sa k (by omega) fun n x hn=>hc n x (by omega)).pushA rf sa e (hc k _ (by omega) e)
theorem Mi.manyB (rf:∀x,le x x){a b out:List Keyed}{i j:Nat}(h:Mi le a b out i j)(sb:M5 le b):∀k,j+k<=b.length->(∀n x,n < k->b[j+n]? =some x->∀y∈a.drop i,le x y)->Mi le a b (out++(b.take (j+k)).drop j) i (j+k)
 |0,_,_=>by rw[eg8,el2 (by rw[eb2];omega),eb8];exact h
 |k+1,hl,hc=>by
  have e:b[j+k]? =some b[j+k]:=dz1 (by omega);rw[by4 e,<-eb3,show j+(k+1)=j+k+1 by omega];exact (Mi.manyB rf h sb k (by omega) fun n x hn=>hc n x (by omega)).pushB rf sb e (hc k _ (by omega) e)
def Mg (le:Keyed->Keyed->Prop)(a b r:List Keyed):Prop:=r.Perm (a++b)/\M5 le r
theorem ax7 (a b out:List Keyed)(i j:Nat)(h:out.Perm (a.take i++b.take j)):(out++a.drop i++b.drop j).Perm (a++b):=by
 have e1:=(h.append_right (a.drop i)).append_right (b.drop j);refine e1.trans ?_
 have e2:((a.take i++b.take j)++a.drop i).Perm (a++b.take j):=by
   rw[eb3];refine (List.Perm.append_left _ eh4).trans ?_;rw[<-eb3,eg5]
 refine (e2.append_right _).trans ?_;rw[eb3,eg5]
theorem Mi.doneB {a b out:List Keyed}{i j:Nat}(h:Mi le a b out i j)(sa:M5 le a)(hj:b.length<=j):Mg le a b (out++a.drop i++b.drop j):=by
 refine ⟨ax7 a b out i j h.pm,?_⟩;rw[el2 hj,eb8];exact Z3.mpr ⟨h.up,ai1 sa i,h.ba⟩
theorem Mi.doneA {a b out:List Keyed}{i j:Nat}(h:Mi le a b out i j)(sb:M5 le b)(hi:a.length<=i):Mg le a b (out++a.drop i++b.drop j):=by
 refine ⟨ax7 a b out i j h.pm,?_⟩;rw[el2 hi,eb8];exact Z3.mpr ⟨h.up,ai1 sb j,h.bb⟩
theorem Mi.last {a b out:List Keyed}{i j:Nat}(h:Mi le a b out i j)(sa:M5 le a)(sb:M5 le b)(top:∀x∈b.drop j,∀y∈a.drop i,le x y):Mg le a b (out++b.drop j++a.drop i):=by
 constructor
 · refine List.Perm.trans ?_ (ax7 a b out i j h.pm);rw[eb3,eb3];exact List.Perm.append_left _ eh4
 · rw[eb3];refine Z3.mpr ⟨h.up,Z3.mpr ⟨ai1 sb j,ai1 sa i,top⟩,fun x hx y hy=> ?_⟩
   rcases ea3.mp hy with e|e
   · exact h.bb x hx y e
   · exact h.ba x hx y e
end
theorem du0 {xs:Array Keyed}(u:Up rk xs 0 xs.size):M5 (Le rk) xs.toList:=by
 refine eb7.mpr fun i j hi hj hij=> ?_
 have:=u i j (eb4 _) (by omega) (by simpa using hj);rw[M1 (p:=xs.toList[i]) (by simp),M1 (p:=xs.toList[j]) (by simp)] at this;exact this
theorem ak3 {xs:Array Keyed}(h:M5 (Le rk) xs.toList):Up rk xs 0 xs.size:=fun i j _ hij hj=>by
 rcases er3 hij with z|z
 · have:=eb7.mp h i j (by simp;omega) (by simpa using hj) z;rw[M1 (i:=i) (p:=xs.toList[i]'(by simp;omega)) (by simp),M1 (i:=j) (p:=xs.toList[j]'(by simpa using hj)) (by simp)];exact this
 · rw[z];exact dz3 _
end
end TS
namespace TS
local macro_rules|`(tactic|omega)=>`(tactic|lia)
open PySem PyProof.Rows
def mLo:Array Keyed->Array Keyed->StateT SortSt Sem (Array Keyed):=sortPriv%PySem.Builtin.mergeLo
section
variable {prog:Program} {w:World} {A:Around} {E:Value->Shared->Prop} {s:Shared}
variable {rk:Keyed->Nat} {a0:Array Keyed} {κ:SortKind}
structure N7 (st t:SortSt):Prop where
 arr:arrOf t=arrOf st
 pend:pendingOf t=pendingOf st
 kind:kindOf t=kindOf st
 ok:failedOf t=failedOf st
theorem N7.refl (st:SortSt):N7 st st:=⟨rfl,rfl,rfl,rfl⟩
def MQ (rk:Keyed->Nat)(a b:Array Keyed)(st:SortSt)(r:Array Keyed)(t:SortSt):Prop:=Mg (Le rk) a.toList b.toList r.toList/\N7 st t
theorem hv {β γ:Type}{F:γ}{K:γ->StateT SortSt Sem β}{Q:β->SortSt->Prop}{st:SortSt}(h:wpS (model prog w) A E s (K F) Q st):wpS (model prog w) A E s (have x:=F;K x) Q st:=h
theorem G7 {β:Type}{c:Prop}[Decidable c]{m n:StateT SortSt Sem β}{Q:β->SortSt->Prop}{st:SortSt}(h1:c->wpS (model prog w) A E s m Q st)(h2:¬c->wpS (model prog w) A E s n Q st):wpS (model prog w) A E s (if c then m else n) Q st:=by
 split
 · exact h1 ‹_›
 · exact h2 ‹_›
theorem V4 {a b:Nat}(h:(a==b)=true):a=b:=by simpa using h
theorem X0 {a b:Nat}(h:¬(a==b)=true):¬a=b:=by simpa using h
theorem ac2 (xs:Array Keyed)(i:Nat):(xs.extract i).toList=xs.toList.drop i:=by rw[Array.toList_extract,et0,ej5 (by simp)]
theorem W2 (xs:Array Keyed)(i j:Nat):(xs.extract i j).toList=(xs.toList.take j).drop i:=by rw[Array.toList_extract,et0,List.drop_take]
theorem N5 {xs:Array Keyed}{i:Nat}{x:Keyed}(h:xs[i]? =some x):xs.toList[i]? =some x:=by rw[<-h];simp
theorem dm2 {st:SortSt}{g:Nat}{Q:Unit->SortSt->Prop}(h:Q () (SortSt.mk' (kindOf st) (arrOf st) (pendingOf st) g (failedOf st))):wpS (model prog w) A E s ((sortPriv%PySem.Builtin.setMinGallop) g) Q st:=wpS_modify h
theorem N7.gal {st t:SortSt}(h:N7 st t)(g:Nat):N7 st (SortSt.mk' (kindOf t) (arrOf t) (pendingOf t) g (failedOf t)):=⟨h.arr,h.pend,h.kind,h.ok⟩
theorem cy1 {st0 st:SortSt}{g:Nat}{Q:Unit->SortSt->Prop}(l:N7 st0 st)(h:∀t,N7 st0 t->Q () t):wpS (model prog w) A E s ((sortPriv%PySem.Builtin.setMinGallop) g) Q st:=dm2 (h _ (l.gal g))
theorem dm3 {st:SortSt}{a b:Array Keyed}(C:Cm prog w A s κ rk a0)(hk:kindOf st=κ)(ia:In0 a0 a)(ib:In0 a0 b)(a1:1<=a.size)(b1:1<=b.size)(sa:M5 (Le rk) a.toList)(sb:M5 (Le rk) b.toList)
   (first:∀x,b[0]? =some x->∀y∈a.toList,Le rk x y) (last:∀x∈b.toList,∀y,a[a.size - 1]? =some y->Le rk x y):wpS (model prog w) A E s (mLo a b) (MQ rk a b st) st:=by
 have la:a.toList.length=a.size:=ec0;have lb:b.toList.length=b.size:=ec0;have ua:=ak3 sa;have ub:=ak3 sb
 have doneB:∀out i j t,Mi (Le rk) a.toList b.toList (ef9 out) i j->N7 st t->b.size<=j->MQ rk a b st (out++a.extract i++b.extract j) t:=fun out i j t m l hj=>by
   refine ⟨?_,l⟩;rw[ee7,ee7,ac2,ac2];exact m.doneB sa (by omega)
 have doneA:∀out i j t,Mi (Le rk) a.toList b.toList (ef9 out) i j->N7 st t->a.size<=i->MQ rk a b st (out++a.extract i++b.extract j) t:=fun out i j t m l hi=>by
   refine ⟨?_,l⟩;rw[ee7,ee7,ac2,ac2];exact m.doneA sb (by omega)
 have lastA:∀out i j t,Mi (Le rk) a.toList b.toList (ef9 out) i j->N7 st t->i+1=a.size->MQ rk a b st (out++b.extract j++a.extract i) t:=fun out i j t m l hi=>by
   refine ⟨?_,l⟩;rw[ee7,ee7,ac2,ac2]
   refine m.last sa sb fun x hx y hy=>last x (em3 hx) y ?_
   have e:a.toList[i]? =some a.toList[i]:=dz1 (by omega);rw[ba6 e,el2 (by omega)] at hy;rw[ea1.mp hy,show a.size - 1=i by omega,<-ee8];exact e
 have stepB:∀out i j x y,Mi (Le rk) a.toList b.toList (ef9 out) i j->a[i]? =some x->b[j]? =some y->rk y<=rk x->Mi (Le rk) a.toList b.toList (ef9 (out.push y)) i (j+1):=fun out i j x y m hx hy le=>by
   rw[em2]
   exact m.pushB (fun _=>dz3 _) sb (N5 hy) fun z hz=>ea4 le (ac1 (fun _=>dz3 _) sa (N5 hx) z hz)
 have stepA:∀out i j x y,Mi (Le rk) a.toList b.toList (ef9 out) i j->a[i]? =some x->b[j]? =some y->rk x<=rk y->Mi (Le rk) a.toList b.toList (ef9 (out.push x)) (i+1) j:=fun out i j x y m hx hy le=>by
   rw[em2]
   exact m.pushA (fun _=>dz3 _) sa (N5 hx) fun z hz=>ea4 le (ac1 (fun _=>dz3 _) sb (N5 hy) z hz)
 refine wpS_bind (wpS_lift (wpAny_rule ⟨rfl,?_⟩));obtain ⟨b0,eb0,mb0⟩:=ib.at (show 0 < b.size by omega);refine wpS_bind (G3 eb0 ?_)
 have m0:Mi (Le rk) a.toList b.toList (ef9 #[b0]) 0 1:=by
   have e:b.toList[0]? =some b0:=N5 eb0;have n:Mi (Le rk) a.toList b.toList [] 0 0:=⟨List.Perm.refl _,List.Pairwise.nil,(fun x h=>by cases h),(fun x h=>by cases h)⟩
   exact n.pushB (fun _=>dz3 _) sb e fun y hy=>first b0 eb0 y hy
 refine hv (hv (hv ?_))
 by_cases z1:1=b.size
 · rw[if_pos (by simpa using z1)];exact wpS_pure (doneB _ _ _ _ m0 (N7.refl st) (by omega))
 rw[if_neg (by simpa using z1)]
 by_cases z2:0+1=a.size
 · rw[if_pos (by simpa using z2)];exact wpS_pure (lastA _ _ _ _ m0 (N7.refl st) z2)
 rw[if_neg (by simpa using z2)];refine wpS_bind (wpS_get ?_)
 refine wpS_bind (wpS_mono (wpS_forRange (I:=fun x c t=>∃out i j g,c=(none,out,i,j,g)/\Mi (Le rk) a.toList b.toList (ef9 out) i j/\i+1 < a.size/\j < b.size/\x<=i+j/\N7 st t)
   (Q:=fun c t=>∃r,c.1=some r/\MQ rk a b st r t) ?step ?fin ⟨_,_,_,_,rfl,m0,by omega,by omega,by omega,N7.refl st⟩) ?post)
 case post=>
   rintro c t ⟨r,hr,q⟩;obtain ⟨c1,c2⟩:=c;cases hr;exact wpS_pure q
 case fin=>
   rintro c t ⟨out,i,j,g,rfl,m,h1,h2,h3,l⟩;omega
 case step=>
   rintro x c t _ xn ⟨out,i,j,g,rfl,m,h1,h2,h3,l⟩
   refine wpS_bind (wpS_mono (wpS_forRange (I:=fun y c t'=>∃out' i' j' p q,c=(none,out',i',j',p,q)/\t'=t/\Mi (Le rk) a.toList b.toList (ef9 out') i' j'/\i'+1 < a.size/\j' < b.size/\i'+j'=i+j+y)
     (Q:=fun c t'=>(∃r,c.1=some r/\MQ rk a b st r t')\/(∃out' i' j' p q,c=(none,out',i',j',p,q)/\t'=t/\Mi (Le rk) a.toList b.toList (ef9 out') i' j'/\i'+1 < a.size/\j' < b.size/\x+1<=i'+j')) ?step2 ?fin2 ⟨_,_,_,_,_,rfl,rfl,m,h1,h2,rfl⟩) ?post2)
   case fin2=>
     rintro c t' ⟨out',i',j',p,q,rfl,rfl,m',k1,k2,k3⟩;omega
   case step2=>
     rintro y c t' _ yn ⟨out',i',j',p,q,rfl,rfl,m',k1,k2,k3⟩;obtain ⟨u,eu,mu⟩:=ia.at (show i' < a.size by omega);obtain ⟨v,ev,mv⟩:=ib.at k2;refine wpS_bind (G3 ev (wpS_bind (G3 eu (wpS_bind (bi1 C (l.kind.trans hk) mv mu ?_)))))
     by_cases d:rk v < rk u
     · rw[decide_eq_true d]
       dsimp only
       rw[if_pos rfl];have m2:=stepB out' i' j' u v m' eu ev (eg2 d);refine wpS_bind (G3 ev ?_)
       by_cases z:j'+1=b.size
       · rw[if_pos (by simpa using z)];exact wpS_pure (.inl ⟨_,rfl,doneB _ _ _ _ m2 l (by omega)⟩)
       · rw[if_neg (by simpa using z)]
         split
         · exact wpS_pure (.inr ⟨_,_,_,_,_,rfl,rfl,m2,k1,by omega,by omega⟩)
         · exact wpS_pure ⟨_,_,_,_,_,rfl,rfl,m2,k1,by omega,by omega⟩
     · rw[decide_eq_false d]
       dsimp only
       rw[if_neg (by decide)];have m2:=stepA out' i' j' u v m' eu ev (by omega);refine wpS_bind (G3 eu ?_)
       by_cases z:i'+1+1=a.size
       · rw[if_pos (by simpa using z)];exact wpS_pure (.inl ⟨_,rfl,lastA _ _ _ _ m2 l z⟩)
       · rw[if_neg (by simpa using z)]
         split
         · exact wpS_pure (.inr ⟨_,_,_,_,_,rfl,rfl,m2,by omega,k2,by omega⟩)
         · exact wpS_pure ⟨_,_,_,_,_,rfl,rfl,m2,by omega,k2,by omega⟩
   case post2=>
     rintro c t' (⟨r,hr,q⟩|⟨out',i',j',p,q,rfl,rfl,m',k1,k2,k3⟩)
     · obtain ⟨c1,c2⟩:=c;cases hr;exact wpS_pure ⟨r,rfl,q⟩
     · refine wpS_bind (wpS_lift (wpAny_rule ⟨rfl,?_⟩))
       refine wpS_bind (wpS_mono (wpS_forRange (I:=fun y c t2=>∃out2 i2 j2 g2 p q,c=(none,out2,i2,j2,g2,p,q)/\N7 st t2/\Mi (Le rk) a.toList b.toList (ef9 out2) i2 j2/\i2+1 < a.size/\j2 < b.size/\x+1<=i2+j2)
         (Q:=fun c t2=>(∃r,c.1=some r/\MQ rk a b st r t2)\/(∃out2 i2 j2 g2 p q,c=(none,out2,i2,j2,g2,p,q)/\N7 st t2/\Mi (Le rk) a.toList b.toList (ef9 out2) i2 j2/\i2+1 < a.size/\j2 < b.size/\x+1<=i2+j2)) ?step3 ?fin3 ⟨_,_,_,_,_,_,rfl,l,m',k1,k2,k3⟩) ?post3)
       case fin3=>
         rintro c t2 h;exact .inr h
       case post3=>
         rintro c t2 (⟨r,hr,q⟩|⟨out2,i2,j2,g2,p,q,rfl,l2,m2,n1,n2,n3⟩)
         · obtain ⟨c1,c2⟩:=c;cases hr;exact wpS_pure ⟨r,rfl,q⟩
         · refine wpS_bind (dm2 ?_);exact wpS_pure ⟨_,_,_,_,rfl,m2,n1,n2,n3,l2.gal _⟩
       case step3=>
         rintro y c t2 _ yn ⟨out2,i2,j2,g2,p,q,rfl,l2,m2,n1,n2,n3⟩;obtain ⟨v,ev,mv⟩:=ib.at n2;refine G7 (fun _=> ?_) (fun _=> ?_)
         all_goals
           refine wpS_bind (cy1 l2 fun t3 l3=> ?_);refine wpS_bind (G3 ev ?_);refine wpS_bind (ao5 (base:=i2) (n:=a.size - i2) (hint:=0) C (l3.kind.trans hk) ia mv (show i2+(a.size - i2)<=a.size by omega) (by omega) (fun x y h1 h2 h3=>ua x y (by omega) h2 (by omega)) fun k kn ka kb=> ?_)
           have mA:∀k',k'<=k->Mi (Le rk) a.toList b.toList (ef9 (out2++a.extract i2 (i2+k'))) (i2+k') j2:=fun k' hk'=>by
             rw[ee7,W2]
             refine m2.manyA (fun _=>dz3 _) sa k' (by omega) fun n x hn hx z hz=> ?_
             have h:=ka n (by omega);unfold J4 at h;rw[if_neg (by decide),M1 (p:=x) (by rw[<-ee8];exact hx)] at h
             have hle:rk x<=rk v:=by simpa using h
             exact ea4 hle (ac1 (fun _=>dz3 _) sb (N5 ev) z hz)
           have gB:i2+k < a.size->rk v < R rk a (i2+k):=fun h=>by
             have h:=kb k (dz3 _) (by omega);unfold J4 at h;rw[if_neg (by decide)] at h
             simpa using h
           have m3:=mA k (dz3 _);refine G7 (fun kz=> ?_) (fun kz=> ?_);refine G7 (fun z=>wpS_pure (.inl ⟨_,rfl,lastA _ _ _ _ m3 l3 (V4 z)⟩)) (fun z1=> ?_);refine G7 (fun z=>wpS_pure (.inl ⟨_,rfl,doneA _ _ _ _ m3 l3 (en8 (V4 z).symm)⟩)) (fun z2=> ?_);have z1:¬i2+k+1=a.size:=X0 z1;have z2:¬i2+k=a.size:=X0 z2
           have f1:i2+k+1 < a.size:=by omega
           have f2:x+1<=i2+k+j2:=by omega
           have f3:=gB (by omega);generalize out2++a.extract i2 (i2+k)=out3 at m3 ⊢;generalize i2+k=i3 at m3 f1 f2 f3 ⊢
           rotate_left
           have k0:k=0:=by omega
           subst k0
           have e0:out2++a.extract i2 (i2+0)=out2:=by simp<;>omega
           rw[e0,eg8] at m3
           have f1:i2+1 < a.size:=by omega
           have f2:x+1<=i2+j2:=by omega
           have f3:=gB (by omega);rw[eg8] at f3;clear e0;generalize out2=out3 at m3 ⊢;generalize i2=i3 at m3 f1 f2 f3 ⊢
           rotate_left
           all_goals
             obtain ⟨u3,eu3,mu3⟩:=ia.at (show i3 < a.size by omega);rw[M1 eu3] at f3;refine wpS_bind (G3 ev ?_);have m4:=stepB out3 i3 j2 u3 v m3 eu3 ev (eg2 f3);refine G7 (fun z=>wpS_pure (.inl ⟨_,rfl,doneB _ _ _ _ m4 l3 (en8 (V4 z).symm)⟩)) (fun z3=> ?_);have z3:¬j2+1=b.size:=X0 z3;refine wpS_bind (G3 eu3 ?_);refine wpS_bind (ao5 (base:=j2+1) (n:=b.size - (j2+1)) (hint:=0) C (l3.kind.trans hk) ib mu3 (show j2+1+(b.size - (j2+1))<=b.size by omega) (by omega) (fun x y h1 h2 h3=>ub x y (by omega) h2 (by omega)) fun k' kn' ka' kb'=> ?_)
             have m5:Mi (Le rk) a.toList b.toList (ef9 (out3.push v++b.extract (j2+1) (j2+1+k'))) i3 (j2+1+k'):=by
               rw[ee7,W2]
               refine m4.manyB (fun _=>dz3 _) sb k' (by omega) fun n x hn hx z hz=> ?_
               have h:=ka' n hn;unfold J4 at h;rw[if_pos rfl,M1 (p:=x) (by rw[<-ee8];exact hx)] at h
               have hle:rk x < rk u3:=by simpa using h
               exact ea4 (eg2 hle) (ac1 (fun _=>dz3 _) sa (N5 eu3) z hz)
             have gA:j2+1+k' < b.size->rk u3<=R rk b (j2+1+k'):=fun h=>by
               have h:=kb' k' (dz3 _) (by omega);unfold J4 at h;rw[if_pos rfl] at h
               simpa using h
             refine G7 (fun kz'=> ?_) (fun kz'=> ?_);refine G7 (fun z=>wpS_pure (.inl ⟨_,rfl,doneB _ _ _ _ m5 l3 (en8 (V4 z).symm)⟩)) (fun z4=> ?_);have z4:¬j2+1+k'=b.size:=X0 z4
             have f4:j2+1+k' < b.size:=by omega
             have f5:x+1<=i3+(j2+1+k'):=by omega
             have f6:=gA f4;generalize out3.push v++b.extract (j2+1) (j2+1+k')=out4 at m5 ⊢;generalize j2+1+k'=j4 at m5 f4 f5 f6 ⊢
             rotate_left
             have k0:k'=0:=by omega
             subst k0
             have e0:out3.push v++b.extract (j2+1) (j2+1+0)=out3.push v:=by simp<;>omega
             rw[e0,eg8] at m5
             have f4:j2+1 < b.size:=by omega
             have f5:x+1<=i3+(j2+1):=by omega
             have f6:=gA (by omega);rw[eg8] at f6;clear e0;generalize out3.push v=out4 at m5 ⊢;generalize j2+1=j4 at m5 f4 f5 f6 ⊢
             rotate_left
             all_goals
               obtain ⟨v4,ev4,mv4⟩:=ib.at f4;rw[M1 ev4] at f6;have m6:=stepA out4 i3 j4 u3 v4 m5 eu3 ev4 f6;refine wpS_bind (G3 eu3 ?_);refine G7 (fun z=>wpS_pure (.inl ⟨_,rfl,lastA _ _ _ _ m6 l3 (V4 z)⟩)) (fun z5=> ?_);have z5:¬i3+1+1=a.size:=X0 z5;refine G7 (fun _=> ?_) (fun _=> ?_)
               · exact wpS_pure (.inr ⟨out4.push u3,i3+1,j4,_,_,_,rfl,l3,m6,by omega,f4,by omega⟩)
               · exact wpS_pure ⟨out4.push u3,i3+1,j4,_,_,_,rfl,l3,m6,by omega,f4,by omega⟩
end
end TS
namespace TS
local macro_rules|`(tactic|omega)=>`(tactic|lia)
open PySem PyProof.Rows
def mHi:Array Keyed->Array Keyed->StateT SortSt Sem (Array Keyed):=sortPriv%PySem.Builtin.mergeHi
def Ge (rk:Keyed->Nat)(x y:Keyed):Prop:=rk y<=rk x
theorem Z4 {rk:Keyed->Nat}{l:List Keyed}(h:M5 (Le rk) l):M5 (Ge rk) l.reverse:=List.pairwise_reverse.mpr h
theorem cr6 {rk:Keyed->Nat}{a b r:List Keyed}(h:Mg (Ge rk) b.reverse a.reverse r.reverse):Mg (Le rk) a b r:=by
 obtain ⟨p,u⟩:=h;refine ⟨?_,List.pairwise_reverse.mp u⟩
 have e:b.reverse++a.reverse=(a++b).reverse:=by rw[em5]
 rw[e] at p;exact (List.reverse_perm r).symm.trans (p.trans (List.reverse_perm _))
theorem O5 {l:List Keyed}{n:Nat}(h:n<=l.length):l.reverse.drop (l.length - n)=(l.take n).reverse:=by
 rw[List.drop_reverse];congr 2;omega
theorem cf6 {l:List Keyed}{n:Nat}{x:Keyed}(h1:1<=n)(h:l[n - 1]? =some x):l.reverse[l.length - n]? =some x:=by
 have hl:=(dz2.mp h).1;rw[eq1 (by omega),<-h]
 congr 1
 omega
theorem cf7 {l:List Keyed}{m n:Nat}(h1:m<=n)(h:n<=l.length):(l.reverse.take (l.length - n+(n - m))).drop (l.length - n)=((l.take n).drop m).reverse:=by
 rw[List.drop_take,O5 h,Nat.add_sub_cancel_left,List.take_reverse,eb2]
 congr 2
 omega
theorem ao6 {rk:Keyed->Nat}{l:List Keyed}{n:Nat}{x:Keyed}(s:M5 (Le rk) l)(h1:1<=n)(h:l[n - 1]? =some x):∀y∈l.take n,rk y<=rk x:=fun y hy=>by
 obtain ⟨hl,e⟩:=dz2.mp h;obtain ⟨i,hi⟩:=ec1.mp hy;have hil:=(dz2.mp hi).1;rw[eb2] at hil;rw[ef8 (by omega),dz1 (by omega)] at hi;have ey:=Option.some.inj hi
 rcases er3 (show i<=n - 1 by omega) with z|z
 · have:=eb7.mp s i (n - 1) (by omega) hl z;rw[ey,e] at this;exact this
 · subst z;rw[<-ey,e];exact dz3 _
section
variable {prog:Program} {w:World} {A:Around} {E:Value->Shared->Prop} {s:Shared}
variable {rk:Keyed->Nat} {a0:Array Keyed} {κ:SortKind}
def Mh (rk:Keyed->Nat)(a b out:Array Keyed)(na nb:Nat):Prop:=na<=a.size/\nb<=b.size/\Mi (Ge rk) b.toList.reverse a.toList.reverse out.toList (b.size - nb) (a.size - na)
theorem Mh.pushB {a b out:Array Keyed}{na nb:Nat}{x:Keyed}(h:Mh rk a b out na nb)(sb:M5 (Le rk) b.toList)(n1:1<=nb)(hx:b[nb - 1]? =some x)(ha:∀y∈a.toList.take na,rk y<=rk x):Mh rk a b (out.push x) na (nb - 1):=by
 obtain ⟨h1,h2,m⟩:=h;refine ⟨h1,by omega,?_⟩;have lb:b.toList.length=b.size:=ec0;have la:a.toList.length=a.size:=ec0;rw[em2,show b.size - (nb - 1)=b.size - nb+1 by omega]
 refine m.pushA (fun _=>dz3 _) (Z4 sb) ?_ fun y hy=>ha y ?_
 · rw[<-lb];exact cf6 n1 (N5 hx)
 · rw[<-la,O5 (by omega)] at hy;exact el3.mp hy
theorem Mh.pushA {a b out:Array Keyed}{na nb:Nat}{x:Keyed}(h:Mh rk a b out na nb)(sa:M5 (Le rk) a.toList)(n1:1<=na)(hx:a[na - 1]? =some x)(hb:∀y∈b.toList.take nb,rk y<=rk x):Mh rk a b (out.push x) (na - 1) nb:=by
 obtain ⟨h1,h2,m⟩:=h;refine ⟨by omega,h2,?_⟩;have lb:b.toList.length=b.size:=ec0;have la:a.toList.length=a.size:=ec0;rw[em2,show a.size - (na - 1)=a.size - na+1 by omega]
 refine m.pushB (fun _=>dz3 _) (Z4 sa) ?_ fun y hy=>hb y ?_
 · rw[<-la];exact cf6 n1 (N5 hx)
 · rw[<-lb,O5 (by omega)] at hy;exact el3.mp hy
theorem Mh.manyA {a b out:Array Keyed}{na nb m:Nat}(h:Mh rk a b out na nb)(sa:M5 (Le rk) a.toList)(hm:m<=na)(hc:∀n x,m<=n->n < na->a[n]? =some x->∀y∈b.toList.take nb,rk y<=rk x):Mh rk a b (out++(a.extract m na).reverse) m nb:=by
 obtain ⟨h1,h2,mi⟩:=h;refine ⟨by omega,h2,?_⟩;have lb:b.toList.length=b.size:=ec0;have la:a.toList.length=a.size:=ec0
 have:=mi.manyB (fun _=>dz3 _) (Z4 sa) (na - m) (by rw[el0];omega) fun n x hn hx y hy=>hc (na - 1 - n) x (by omega) (by omega) ?_ y ?_
 · rw[<-la,cf7 hm (by omega),<-W2,la,show a.size - na+(na - m)=a.size - m by omega] at this;rw[ee7,eo2];exact this
 · rw[eq1 (by omega)] at hx;rw[<-ee8,<-hx]
   congr 1
   omega
 · rw[<-lb,O5 (by omega)] at hy;exact el3.mp hy
theorem Mh.manyB {a b out:Array Keyed}{na nb m:Nat}(h:Mh rk a b out na nb)(sb:M5 (Le rk) b.toList)(hm:m<=nb)(hc:∀n x,m<=n->n < nb->b[n]? =some x->∀y∈a.toList.take na,rk y<=rk x):Mh rk a b (out++(b.extract m nb).reverse) na m:=by
 obtain ⟨h1,h2,mi⟩:=h;refine ⟨h1,by omega,?_⟩;have lb:b.toList.length=b.size:=ec0;have la:a.toList.length=a.size:=ec0
 have:=mi.manyA (fun _=>dz3 _) (Z4 sb) (nb - m) (by rw[el0];omega) fun n x hn hx y hy=>hc (nb - 1 - n) x (by omega) (by omega) ?_ y ?_
 · rw[<-lb,cf7 hm (by omega),<-W2,lb,show b.size - nb+(nb - m)=b.size - m by omega] at this;rw[ee7,eo2];exact this
 · rw[eq1 (by omega)] at hx;rw[<-ee8,<-hx]
   congr 1
   omega
 · rw[<-la,O5 (by omega)] at hy;exact el3.mp hy
theorem as0 (xs:Array Keyed)(j:Nat):(xs.extract 0 j).toList=xs.toList.take j:=by rw[W2,ev6]
theorem Mh.done {a b out:Array Keyed}{na nb:Nat}(h:Mh rk a b out na nb)(sa:M5 (Le rk) a.toList)(sb:M5 (Le rk) b.toList)(z:na=0\/nb=0):Mg (Le rk) a.toList b.toList (a.extract 0 na++b.extract 0 nb++out.reverse).toList:=by
 obtain ⟨h1,h2,m⟩:=h;have lb:b.toList.length=b.size:=ec0;have la:a.toList.length=a.size:=ec0;refine cr6 ?_
 have e:(a.extract 0 na++b.extract 0 nb++out.reverse).toList.reverse=out.toList++b.toList.reverse.drop (b.size - nb)++a.toList.reverse.drop (a.size - na):=by
   rw[ee7,ee7,eo2,as0,as0,em5,em5,List.reverse_reverse,<-la,<-lb,O5 (by omega),O5 (by omega),eb3]
 rw[e]
 rcases z with z|z
 · exact m.doneB (Z4 sb) (by rw[el0];omega)
 · exact m.doneA (Z4 sa) (by rw[el0];omega)
theorem Mh.first {a b out:Array Keyed}{na nb:Nat}(h:Mh rk a b out na nb)(sa:M5 (Le rk) a.toList)(sb:M5 (Le rk) b.toList)(lo:∀x∈a.toList.take na,∀y∈b.toList.take nb,rk y<=rk x):Mg (Le rk) a.toList b.toList (b.extract 0 nb++a.extract 0 na++out.reverse).toList:=by
 obtain ⟨h1,h2,m⟩:=h;have lb:b.toList.length=b.size:=ec0;have la:a.toList.length=a.size:=ec0;refine cr6 ?_
 have e:(b.extract 0 nb++a.extract 0 na++out.reverse).toList.reverse=out.toList++a.toList.reverse.drop (a.size - na)++b.toList.reverse.drop (b.size - nb):=by
   rw[ee7,ee7,eo2,as0,as0,em5,em5,List.reverse_reverse,<-la,<-lb,O5 (by omega),O5 (by omega),eb3]
 rw[e]
 refine m.last (Z4 sb) (Z4 sa) fun x hx y hy=> ?_
 rw[<-la,O5 (by omega)] at hx;rw[<-lb,O5 (by omega)] at hy;exact lo x (el3.mp hx) y (el3.mp hy)
theorem dm4 {st:SortSt}{a b:Array Keyed}(C:Cm prog w A s κ rk a0)(hk:kindOf st=κ)(ia:In0 a0 a)(ib:In0 a0 b)(a1:1<=a.size)(b1:1<=b.size)(sa:M5 (Le rk) a.toList)(sb:M5 (Le rk) b.toList)
   (first:∀x,b[0]? =some x->∀y∈a.toList,Le rk x y) (last:∀x∈b.toList,∀y,a[a.size - 1]? =some y->Le rk x y):wpS (model prog w) A E s (mHi a b) (MQ rk a b st) st:=by
 have la:a.toList.length=a.size:=ec0;have lb:b.toList.length=b.size:=ec0;have ua:=ak3 sa;have ub:=ak3 sb;refine wpS_bind (wpS_lift (wpAny_rule ⟨rfl,?_⟩));obtain ⟨x0,ex0,mx0⟩:=ia.at (show a.size - 1 < a.size by omega);refine wpS_bind (G3 ex0 ?_)
 have doneM:∀out na nb t,Mh rk a b out na nb->N7 st t->na=0\/nb=0->MQ rk a b st (a.extract 0 na++b.extract 0 nb++Array.reverse out) t:=fun out na nb t m l z=>⟨m.done sa sb z,l⟩
 have firstM:∀out na nb t,Mh rk a b out na nb->N7 st t->nb=1->MQ rk a b st (b.extract 0 nb++a.extract 0 na++Array.reverse out) t:=fun out na nb t m l z=>by
   refine ⟨m.first sa sb fun x hx y hy=> ?_,l⟩;subst z;obtain ⟨b0,eb0,mb0⟩:=ib.at (show 0 < b.size by omega);have:=ao6 sb (dz3 1) (N5 eb0) y hy;exact ea4 this (first b0 eb0 x (ef0 hx))
 have stepA:∀out na nb x y,Mh rk a b out na nb->1<=na->1<=nb->a[na - 1]? =some x->b[nb - 1]? =some y->rk y<=rk x->Mh rk a b (out.push x) (na - 1) nb:=fun out na nb x y m h1 h2 hx hy le=>
   m.pushA sa h1 hx fun z hz=>ea4 (ao6 sb h2 (N5 hy) z hz) le
 have stepB:∀out na nb x y,Mh rk a b out na nb->1<=na->1<=nb->a[na - 1]? =some x->b[nb - 1]? =some y->rk x<=rk y->Mh rk a b (out.push y) na (nb - 1):=fun out na nb x y m h1 h2 hx hy le=>
   m.pushB sb h2 hy fun z hz=>ea4 (ao6 sa h1 (N5 hx) z hz) le
 have m0:Mh rk a b #[x0] (a.size - 1) b.size:=by
   have n:Mh rk a b #[] a.size b.size:=⟨dz3 _,dz3 _,by rw[ek1,ek1];exact ⟨List.Perm.refl _,List.Pairwise.nil,(fun x h=>by cases h),(fun x h=>by cases h)⟩⟩
   exact n.pushA sa a1 ex0 fun y hy=>last y (ef0 hy) x0 ex0
 refine G7 (fun z=>wpS_pure (doneM _ _ _ _ m0 (N7.refl st) (.inl (V4 z)))) (fun z1=> ?_);have z1:¬a.size - 1=0:=X0 z1;refine G7 (fun z=>wpS_pure (firstM _ _ _ _ m0 (N7.refl st) (V4 z))) (fun z2=> ?_);have z2:¬b.size=1:=X0 z2;refine wpS_bind (wpS_get ?_)
 refine wpS_bind (wpS_mono (wpS_forRange (I:=fun x c t=>∃na nb out g,c=(none,na,nb,out,g)/\Mh rk a b out na nb/\1<=na/\2<=nb/\x+na+nb<=a.size+b.size/\N7 st t)
   (Q:=fun c t=>∃r,c.1=some r/\MQ rk a b st r t) ?step ?fin ⟨_,_,_,_,rfl,m0,by omega,by omega,by omega,N7.refl st⟩) ?post)
 case post=>
   rintro c t ⟨r,hr,q⟩;obtain ⟨c1,c2⟩:=c;cases hr;exact wpS_pure q
 case fin=>
   rintro c t ⟨na,nb,out,g,rfl,m,h1,h2,h3,l⟩;omega
 case step=>
   rintro x c t _ xn ⟨na,nb,out,g,rfl,m,h1,h2,h3,l⟩
   refine wpS_bind (wpS_mono (wpS_forRange (I:=fun y c t'=>∃na' nb' out' p q,c=(none,na',nb',out',p,q)/\t'=t/\Mh rk a b out' na' nb'/\1<=na'/\2<=nb'/\na'+nb'+y=na+nb)
     (Q:=fun c t'=>(∃r,c.1=some r/\MQ rk a b st r t')\/(∃na' nb' out' p q,c=(none,na',nb',out',p,q)/\t'=t/\Mh rk a b out' na' nb'/\1<=na'/\2<=nb'/\x+1+na'+nb'<=a.size+b.size)) ?step2 ?fin2 ⟨_,_,_,_,_,rfl,rfl,m,h1,h2,rfl⟩) ?post2)
   case fin2=>
     rintro c t' ⟨na',nb',out',p,q,rfl,rfl,m',k1,k2,k3⟩;omega
   case step2=>
     rintro y c t' _ yn ⟨na',nb',out',p,q,rfl,rfl,m',k1,k2,k3⟩;obtain ⟨u,eu,mu⟩:=ia.at (show na' - 1 < a.size by have:=m'.1;omega);obtain ⟨v,ev,mv⟩:=ib.at (show nb' - 1 < b.size by have:=m'.2.1;omega);refine wpS_bind (G3 ev (wpS_bind (G3 eu (wpS_bind (bi1 C (l.kind.trans hk) mv mu ?_)))))
     by_cases d:rk v < rk u
     · rw[decide_eq_true d];refine G7 (fun _=> ?_) (fun h=>absurd rfl h);have m2:=stepA out' na' nb' u v m' k1 (by omega) eu ev (eg2 d);refine wpS_bind (G3 eu ?_);refine G7 (fun z=>wpS_pure (.inl ⟨_,rfl,doneM _ _ _ _ m2 l (.inl (V4 z))⟩)) (fun z=> ?_);have z:¬na' - 1=0:=X0 z;refine G7 (fun _=> ?_) (fun _=> ?_)
       · exact wpS_pure (.inr ⟨na' - 1,nb',out'.push u,_,_,rfl,rfl,m2,by omega,k2,by omega⟩)
       · exact wpS_pure ⟨na' - 1,nb',out'.push u,_,_,rfl,rfl,m2,by omega,k2,by omega⟩
     · rw[decide_eq_false d];refine G7 (fun h=>absurd h (by decide)) (fun _=> ?_);have m2:=stepB out' na' nb' u v m' k1 (by omega) eu ev (by omega);refine wpS_bind (G3 ev ?_);refine G7 (fun z=>wpS_pure (.inl ⟨_,rfl,firstM _ _ _ _ m2 l (V4 z)⟩)) (fun z=> ?_);have z:¬nb' - 1=1:=X0 z;refine G7 (fun _=> ?_) (fun _=> ?_)
       · exact wpS_pure (.inr ⟨na',nb' - 1,out'.push v,_,_,rfl,rfl,m2,k1,by omega,by omega⟩)
       · exact wpS_pure ⟨na',nb' - 1,out'.push v,_,_,rfl,rfl,m2,k1,by omega,by omega⟩
   case post2=>
     rintro c t' (⟨r,hr,q⟩|⟨na',nb',out',p,q,rfl,rfl,m',k1,k2,k3⟩)
     · obtain ⟨c1,c2⟩:=c;cases hr;exact wpS_pure ⟨r,rfl,q⟩
     · refine wpS_bind (wpS_lift (wpAny_rule ⟨rfl,?_⟩))
       refine wpS_bind (wpS_mono (wpS_forRange (I:=fun y c t2=>∃na2 nb2 out2 g2 p q,c=(none,na2,nb2,out2,g2,p,q)/\N7 st t2/\Mh rk a b out2 na2 nb2/\1<=na2/\2<=nb2/\x+1+na2+nb2<=a.size+b.size)
         (Q:=fun c t2=>(∃r,c.1=some r/\MQ rk a b st r t2)\/(∃na2 nb2 out2 g2 p q,c=(none,na2,nb2,out2,g2,p,q)/\N7 st t2/\Mh rk a b out2 na2 nb2/\1<=na2/\2<=nb2/\x+1+na2+nb2<=a.size+b.size)) ?step3 ?fin3 ⟨_,_,_,_,_,_,rfl,l,m',k1,k2,k3⟩) ?post3)
       case fin3=>
         rintro c t2 h;exact .inr h
       case post3=>
         rintro c t2 (⟨r,hr,q⟩|⟨na2,nb2,out2,g2,p,q,rfl,l2,m2,n1,n2,n3⟩)
         · obtain ⟨c1,c2⟩:=c;cases hr;exact wpS_pure ⟨r,rfl,q⟩
         · refine wpS_bind (cy1 l2 fun t3 l3=> ?_);exact wpS_pure ⟨_,_,_,_,rfl,m2,n1,n2,n3,l3⟩
       case step3=>
         rintro y c t2 _ yn ⟨na2,nb2,out2,g2,p,q,rfl,l2,m2,n1,n2,n3⟩;have q1:=m2.1;have q2:=m2.2.1;obtain ⟨v,ev,mv⟩:=ib.at (show nb2 - 1 < b.size by omega);refine G7 (fun _=> ?_) (fun _=> ?_)
         all_goals
           refine wpS_bind (cy1 l2 fun t3 l3=> ?_);refine wpS_bind (G3 ev ?_);refine wpS_bind (ao5 (base:=0) (n:=na2) (hint:=na2 - 1) C (l3.kind.trans hk) ia mv (by omega) (by omega) (fun x y h1 h2 h3=>ua x y (by omega) h2 (by omega)) fun k kn ka kb=> ?_)
           have m3:Mh rk a b (out2++(a.extract k na2).reverse) k nb2:=m2.manyA sa kn fun n x h1 h2 hx z hz=>by
             have h:=kb n h1 h2;unfold J4 at h;rw[if_neg (by decide),ek0,M1 hx] at h
             have hle:rk v < rk x:=by simpa using h
             exact ea4 (ao6 sb (by omega) (N5 ev) z hz) (eg2 hle)
           have gA:1<=k->R rk a (k - 1)<=rk v:=fun h=>by
             have h:=ka (k - 1) (by omega);unfold J4 at h;rw[if_neg (by decide),ek0] at h
             simpa using h
           refine G7 (fun kz=> ?_) (fun kz=> ?_);have kz:na2 - k > 0:=kz;refine G7 (fun z=>wpS_pure (.inl ⟨_,rfl,doneM _ _ _ _ m3 l3 (.inl (V4 z))⟩)) (fun z1=> ?_);have z1:¬k=0:=X0 z1
           have f1:1<=k:=by omega
           have f2:x+1+k+nb2<=a.size+b.size:=by omega
           have f3:=gA f1;generalize out2++(a.extract k na2).reverse=out3 at m3 ⊢
           rotate_left
           have kz:¬na2 - k > 0:=kz
           have k0:k=na2:=by omega
           have e0:out2++(a.extract k na2).reverse=out2:=by rw[k0];simp<;>omega
           rw[e0] at m3
           have f1:1<=k:=by omega
           have f2:x+1+k+nb2<=a.size+b.size:=by omega
           have f3:=gA f1;clear e0;subst k0;generalize out2=out3 at m3 ⊢
           rotate_left
           all_goals
             obtain ⟨u3,eu3,mu3⟩:=ia.at (show k - 1 < a.size by omega);rw[M1 eu3] at f3;refine wpS_bind (G3 ev ?_);have m4:=stepB out3 k nb2 u3 v m3 f1 (by omega) eu3 ev f3;refine G7 (fun z=>wpS_pure (.inl ⟨_,rfl,firstM _ _ _ _ m4 l3 (V4 z)⟩)) (fun z3=> ?_);have z3:¬nb2 - 1=1:=X0 z3;refine wpS_bind (G3 eu3 ?_);refine wpS_bind (ao5 (base:=0) (n:=nb2 - 1) (hint:=nb2 - 1 - 1) C (l3.kind.trans hk) ib mu3 (by omega) (by omega) (fun x y h1 h2 h3=>ub x y (by omega) h2 (by omega)) fun k' kn' ka' kb'=> ?_)
             have m5:Mh rk a b (out3.push v++(b.extract k' (nb2 - 1)).reverse) k k':=m4.manyB sb kn' fun n x h1 h2 hx z hz=>by
               have h:=kb' n h1 h2;unfold J4 at h;rw[if_pos rfl,ek0,M1 hx] at h
               have hle:rk u3<=rk x:=by simpa using h
               exact ea4 (ao6 sa f1 (N5 eu3) z hz) hle
             have gB:1<=k'->R rk b (k' - 1) < rk u3:=fun h=>by
               have h:=ka' (k' - 1) (by omega);unfold J4 at h;rw[if_pos rfl,ek0] at h
               simpa using h
             refine G7 (fun kz'=> ?_) (fun kz'=> ?_);have kz':nb2 - 1 - k' > 0:=kz';refine G7 (fun z=>wpS_pure (.inl ⟨_,rfl,firstM _ _ _ _ m5 l3 (V4 z)⟩)) (fun z4=> ?_);have z4:¬k'=1:=X0 z4;refine G7 (fun z=>wpS_pure (.inl ⟨_,rfl,doneM _ _ _ _ m5 l3 (.inr (V4 z))⟩)) (fun z5=> ?_);have z5:¬k'=0:=X0 z5
             have f4:2<=k':=by omega
             have f5:x+1+k+k'<=a.size+b.size:=by omega
             have f6:=gB (by omega);generalize out3.push v++(b.extract k' (nb2 - 1)).reverse=out4 at m5 ⊢
             rotate_left
             have kz':¬nb2 - 1 - k' > 0:=kz'
             have k0':k'=nb2 - 1:=by omega
             have e0:out3.push v++(b.extract k' (nb2 - 1)).reverse=out3.push v:=by rw[k0'];simp<;>omega
             rw[e0] at m5
             have f4:2<=k':=by omega
             have f5:x+1+k+k'<=a.size+b.size:=by omega
             have f6:=gB (by omega);clear e0;generalize out3.push v=out4 at m5 ⊢
             rotate_left
             all_goals
               have q3:=m5.2.1;obtain ⟨v4,ev4,mv4⟩:=ib.at (show k' - 1 < b.size by omega);rw[M1 ev4] at f6;have m6:=stepA out4 k k' u3 v4 m5 f1 (by omega) eu3 ev4 (eg2 f6);refine wpS_bind (G3 eu3 ?_)
               first
                 |refine G7 (fun z=>wpS_pure (.inl ⟨_,rfl,doneM _ _ _ _ m6 l3 (.inl (V4 z))⟩)) (fun z6=> ?_)
                 |(rw[k0'] at m6;refine G7 (fun z=>wpS_pure (.inl ⟨_,rfl,doneM _ _ _ _ m6 l3 (.inl (V4 z))⟩)) (fun z6=> ?_))
               have z6:¬k - 1=0:=X0 z6;refine G7 (fun _=> ?_) (fun _=> ?_)
               · first
                   |exact wpS_pure (.inr ⟨k - 1,k',out4.push u3,_,_,_,rfl,l3,m6,by omega,f4,by omega⟩)
                   |exact wpS_pure (.inr ⟨k - 1,nb2 - 1,out4.push u3,_,_,_,rfl,l3,m6,by omega,by omega,by omega⟩)
               · first
                   |exact wpS_pure ⟨k - 1,k',out4.push u3,_,_,_,rfl,l3,m6,by omega,f4,by omega⟩
                   |exact wpS_pure ⟨k - 1,nb2 - 1,out4.push u3,_,_,_,rfl,l3,m6,by omega,by omega,by omega⟩
end
end TS
namespace TS
local macro_rules|`(tactic|omega)=>`(tactic|lia)
open PySem PyProof.Rows
section
variable {rk:Keyed->Nat}
def P2 (xs:Array Keyed)(lo hi:Nat):List Keyed:=(xs.toList.take hi).drop lo
theorem Q9 {xs:Array Keyed}{lo hi:Nat}(h:hi<=xs.size):(P2 xs lo hi).length=hi - lo:=by unfold P2;rw[ed2,eb2];simp;omega
theorem P4 {xs:Array Keyed}{lo hi i:Nat}(hi':lo+i < hi):(P2 xs lo hi)[i]? =xs[lo+i]? :=by
 unfold P2;rw[el5,ef8 hi',ee8]
theorem ba7 {xs:Array Keyed}{lo hi:Nat}(u:Up rk xs lo hi)(h:hi<=xs.size):M5 (Le rk) (P2 xs lo hi):=by
 refine eb7.mpr fun i j h1 h2 hij=> ?_
 have l:=Q9 (lo:=lo) h;have e1:(P2 xs lo hi)[i]? =some (P2 xs lo hi)[i]:=dz1 h1;have e2:(P2 xs lo hi)[j]? =some (P2 xs lo hi)[j]:=dz1 h2;rw[P4 (by omega)] at e1 e2;have:=u (lo+i) (lo+j) (by omega) (by omega) (by omega);rw[M1 e1,M1 e2] at this;exact this
theorem dm5 {xs:Array Keyed}{lo hi:Nat}(s:M5 (Le rk) (P2 xs lo hi))(h:hi<=xs.size):Up rk xs lo hi:=fun i j h1 h2 h3=>by
 have l:=Q9 (lo:=lo) h
 rcases er3 h2 with z|z
 · have:=eb7.mp s (i - lo) (j - lo) (by omega) (by omega) (by omega);have e1:(P2 xs lo hi)[i - lo]? =some (P2 xs lo hi)[i - lo]:=dz1 (by omega);have e2:(P2 xs lo hi)[j - lo]? =some (P2 xs lo hi)[j - lo]:=dz1 (by omega);rw[P4 (by omega),show lo+(i - lo)=i by omega] at e1;rw[P4 (by omega),show lo+(j - lo)=j by omega] at e2;rw[M1 e1,M1 e2];exact this
 · rw[z];exact dz3 _
theorem ac3 {xs:Array Keyed}{lo hi:Nat}{x:Keyed}(h:hi<=xs.size)(hx:x∈P2 xs lo hi):∃i,lo<=i/\i < hi/\xs[i]? =some x:=by
 obtain ⟨i,hi'⟩:=ec1.mp hx;have l:=Q9 (lo:=lo) h;have:=(dz2.mp hi').1;exact ⟨lo+i,by omega,by omega,by rw[<-P4 (hi:=hi) (by omega)];exact hi'⟩
theorem ac4 {xs:Array Keyed}{a b c:Nat}(h1:a<=b)(h2:b<=c)(h:c<=xs.size):P2 xs a b++P2 xs b c=P2 xs a c:=by
 refine ed7 fun i=> ?_
 by_cases z:i < b - a
 · rw[eb6 (by rw[Q9 (by omega)];omega),P4 (by omega),P4 (by omega)]
 · rw[eb9 (by rw[Q9 (by omega)];omega),Q9 (by omega)]
   by_cases y:i < c - a
   · rw[P4 (by omega),P4 (by omega)];congr 1;omega
   · rw[ea5 (by rw[Q9 h];omega),ea5 (by rw[Q9 h];omega)]
theorem cf8 (xs:Array Keyed):P2 xs 0 xs.size=xs.toList:=by
 unfold P2;rw[ev6,ej5 (by simp)]
def wr (p:Nat)(l:List (Keyed×Nat))(xs:Array Keyed):Array Keyed:=l.foldl (fun a q=>a.setIfInBounds (p+q.2) q.1) xs
theorem ao7 (p:Nat):∀(l:List (Keyed×Nat)) (xs:Array Keyed),(wr p l xs).size=xs.size
 |[],xs=>rfl
 |q::l,xs=>(ao7 p l _).trans (by simp)
theorem by5 (p:Nat):∀(m:List Keyed) (n:Nat) (xs:Array Keyed),p+n+m.length<=xs.size->∀k,(wr p (m.zipIdx n) xs)[k]? =if p+n<=k/\k < p+n+m.length then m[k - (p+n)]? else xs[k]?
 |[],n,xs,_,k=>by
  show xs[k]? =_;rw[if_neg (by simp)]
 |x::m,n,xs,h,k=>by
  rw[ee9] at h ⊢;show (wr p (m.zipIdx (n+1)) (xs.setIfInBounds (p+n) x))[k]? =_;rw[by5 p m (n+1) _ (by rw[Array.size_setIfInBounds];omega) k,Array.getElem?_setIfInBounds]
  by_cases z:k=p+n
  · subst z;rw[if_neg (by omega),if_pos rfl,if_pos (by omega),if_pos (by omega),ek1];rfl
  · by_cases y:p+n<=k/\k < p+n+(m.length+1)
    · rw[if_pos (by omega),if_pos y,show k - (p+n)=k - (p+(n+1))+1 by omega];rfl
    · rw[if_neg (by omega),if_neg (by omega),if_neg y]
theorem cr7 {m:List Keyed}{p:Nat}{xs:Array Keyed}(h:p+m.length<=xs.size):P2 (wr p m.zipIdx xs) p (p+m.length)=m:=by
 refine ed7 fun i=> ?_
 by_cases z:i < m.length
 · rw[P4 (by omega),by5 p m 0 xs h,if_pos (by omega)]
   congr 1;omega
 · rw[ea5 (by rw[Q9 (by rw[ao7];omega)];omega),ea5 (by omega)]
theorem cf9 {m:List Keyed}{p:Nat}{xs:Array Keyed}(h:p+m.length<=xs.size):G6 xs (wr p m.zipIdx xs) p (p+m.length):=fun k hk=>by
 rw[by5 p m 0 xs h,if_neg (by omega)]
theorem as1 {xs ys:Array Keyed}{lo hi a b:Nat}(hz:ys.size=xs.size)(k:G6 xs ys lo hi)(h:b<=lo\/hi<=a)(hb:b<=xs.size):P2 ys a b=P2 xs a b:=by
 refine ed7 fun i=> ?_
 by_cases z:a+i < b
 · rw[P4 z,P4 z];exact k _ (by omega)
 · rw[ea5 (by rw[Q9 (by omega)];omega),ea5 (by rw[Q9 hb];omega)]
theorem df0 {m:List Keyed}{p:Nat}{xs:Array Keyed}(h:p+m.length<=xs.size)(pm:m.Perm (P2 xs p (p+m.length))):(wr p m.zipIdx xs).Perm xs:=by
 rw[ej8,<-cf8 xs,<-cf8 (wr p m.zipIdx xs),ao7];have hk:=cf9 h;have hs:=ao7 p m.zipIdx xs;rw[<-ac4 (eb4 p) (show p<=xs.size by omega) (dz3 _),<-ac4 (show p<=p+m.length by omega) (show p+m.length<=xs.size by omega) (dz3 _)];rw[<-ac4 (xs:=wr p m.zipIdx xs) (eb4 p) (show p<=xs.size by omega) (by omega),<-ac4 (xs:=wr p m.zipIdx xs) (show p<=p+m.length by omega) (show p+m.length<=xs.size by omega) (by omega)];rw[as1 hs hk (.inl (dz3 _)) (by omega),as1 hs hk (.inr (dz3 _)) (dz3 _),cr7 h];exact List.Perm.append_left _ (pm.append_right _)
end
end TS
namespace TS
local macro_rules|`(tactic|omega)=>`(tactic|lia)
open PySem PyProof.Rows
section
variable {prog:Program} {w:World} {A:Around} {E:Value->Shared->Prop} {s:Shared}
variable {rk:Keyed->Nat} {a0:Array Keyed} {κ:SortKind}
theorem df1 {st:SortSt}(B:Bs a0 κ st)(lo hi:Nat):In0 a0 ((arrOf st).extract lo hi):=fun x hx=>by
 rw[W2] at hx;exact (ej8.mp B.perm).mem_iff.mp (ef0 (em3 hx))
theorem bm1 {st:SortSt}(B:Bs a0 κ st):In0 a0 (arrOf st):=fun x hx=>(ej8.mp B.perm).mem_iff.mp hx
theorem cg0 {xs:Array Keyed}{lo hi i:Nat}(h:lo+i < hi):(xs.extract lo hi)[i]? =xs[lo+i]? :=by
 rw[<-ee8,W2];exact P4 h
theorem dm6 {st:SortSt}{i sa na nb pw pw2:Nat}{Q:Bool->SortSt->Prop}(C:Cm prog w A s κ rk a0)(B:Bs a0 κ st)(e1:(pendingOf st)[i]? =some (sa,na,pw))(e2:(pendingOf st)[i+1]? =some (sa+na,nb,pw2))(n1:1<=na)(n2:1<=nb)
   (hz:sa+na+nb<=a0.size) (u1:Up rk (arrOf st) sa (sa+na)) (u2:Up rk (arrOf st) (sa+na) (sa+na+nb))
   (h:∀t,Bs a0 κ t->Up rk (arrOf t) sa (sa+na+nb)->G6 (arrOf st) (arrOf t) sa (sa+na+nb)->pendingOf t=((pendingOf st).setIfInBounds i (sa,na+nb,pw)).eraseIdxIfInBounds (i+1)->Q true t):
   wpS (model prog w) A E s (mergeAt' i) Q st:=by
 have hs:=B.size;refine wpS_bind (wpS_get ?_);rw[show (sortPriv%PySem.Builtin.SortState.pending) st=pendingOf st from rfl,e1,e2];refine wpS_bind (wpS_modify (f:=fun _=>setPending st (((pendingOf st).setIfInBounds i (sa,na+nb,pw)).eraseIdxIfInBounds (i+1))) ?_);obtain ⟨pd,hpd⟩:∃pd,pd=((pendingOf st).setIfInBounds i (sa,na+nb,pw)).eraseIdxIfInBounds (i+1):=⟨_,rfl⟩;rw[<-hpd] at h ⊢;have B1:Bs a0 κ (setPending st pd):=⟨B.perm,B.kind,B.ok⟩;obtain ⟨xs,hxs⟩:∃xs,xs=arrOf st:=⟨_,rfl⟩;have In:=bm1 B
 have ext0:=fun lo hi=>df1 B lo hi
 rw[<-hxs] at hs u1 u2 h In ext0
 have hxz:sa+na+nb<=xs.size:=by omega
 obtain ⟨key,ek,mk⟩:=In.at (show sa+na < xs.size by omega)
 have ek':(arrOf st)[sa+na]? =some key:=by rw[<-hxs];exact ek
 refine wpS_bind (G3 ek' ?_);refine wpS_bind (ao5 (left:=false) (arr:=arrOf st) (base:=sa) (n:=na) (hint:=0) C B1.kind (bm1 B) mk (by rw[<-hxs];omega) (by omega) (by rw[<-hxs];exact u1) fun k kn ka kb=> ?_)
 have ka1:∀i,sa<=i->i < sa+k->R rk xs i<=rk key:=fun i h1 h2=>by
   have:=ka (i - sa) (by omega);unfold J4 at this;rw[if_neg (by decide),<-hxs,show sa+(i - sa)=i by omega] at this
   simpa using this
 have kb1:∀i,sa+k<=i->i < sa+na->rk key < R rk xs i:=fun i h1 h2=>by
   have:=kb (i - sa) (by omega) (by omega);unfold J4 at this;rw[if_neg (by decide),<-hxs,show sa+(i - sa)=i by omega] at this
   simpa using this
 have rkey:R rk xs (sa+na)=rk key:=M1 ek
 have joined:(∀i,sa<=i->i < sa+na->∀j,sa+na<=j->j < sa+na+nb->R rk xs i<=R rk xs j)->Up rk xs sa (sa+na+nb):=fun g i j h1 h2 h3=>by
   by_cases y:j < sa+na
   · exact u1 i j h1 h2 y
   · by_cases z:i < sa+na
     · exact g i h1 z j (by omega) h3
     · exact u2 i j (by omega) h2 h3
 refine G7 (fun z=> ?_) (fun z=> ?_)
 · have z:na - k=0:=V4 z;refine wpS_pure (h _ B1 ?_ (by rw[hxs];exact G6.refl _ _ _) rfl);show Up rk (arrOf st) _ _;rw[<-hxs]
   refine joined fun i h1 h2 j h3 h4=> ?_
   have a1:=ka1 i h1 (by omega);have a2:=u2 (sa+na) j (dz3 _) h3 h4;omega
 have z:¬na - k=0:=X0 z
 have ep:sa+k+(na - k) - 1=sa+na - 1:=by omega
 obtain ⟨key2,ek2,mk2⟩:=In.at (show sa+na - 1 < xs.size by omega)
 have ek2':(arrOf st)[sa+k+(na - k) - 1]? =some key2:=by rw[ep,<-hxs];exact ek2
 have rkey2:R rk xs (sa+na - 1)=rk key2:=M1 ek2;refine wpS_bind (G3 ek2' ?_);refine wpS_bind (ao5 (left:=true) (arr:=arrOf st) (base:=sa+na) (n:=nb) (hint:=nb - 1) C B1.kind (bm1 B) mk2 (by rw[<-hxs];omega) (by omega) (by rw[<-hxs];exact u2) fun k' kn' ka' kb'=> ?_)
 have ka2:∀i,sa+na<=i->i < sa+na+k'->R rk xs i < rk key2:=fun i h1 h2=>by
   have:=ka' (i - (sa+na)) (by omega);unfold J4 at this;rw[if_pos rfl,<-hxs,show sa+na+(i - (sa+na))=i by omega] at this
   simpa using this
 have kb2:∀i,sa+na+k'<=i->i < sa+na+nb->rk key2<=R rk xs i:=fun i h1 h2=>by
   have:=kb' (i - (sa+na)) (by omega) (by omega);unfold J4 at this;rw[if_pos rfl,<-hxs,show sa+na+(i - (sa+na))=i by omega] at this
   simpa using this
 refine G7 (fun z'=> ?_) (fun z'=> ?_)
 · have z':k'=0:=V4 z';refine wpS_pure (h _ B1 ?_ (by rw[hxs];exact G6.refl _ _ _) rfl);show Up rk (arrOf st) _ _;rw[<-hxs]
   refine joined fun i h1 h2 j h3 h4=> ?_
   have a1:=kb2 j (by omega) h4;have a2:=u1 i (sa+na - 1) h1 (by omega) (by omega);omega
 have z':¬k'=0:=X0 z';have xl:(xs.extract (sa+k) (sa+na)).toList=P2 xs (sa+k) (sa+na):=W2 _ _ _;have yl:(xs.extract (sa+na) (sa+na+k')).toList=P2 xs (sa+na) (sa+na+k'):=W2 _ _ _
 have xz:(xs.extract (sa+k) (sa+na)).size=na - k:=by rw[Array.size_extract];omega
 have yz:(xs.extract (sa+na) (sa+na+k')).size=k':=by rw[Array.size_extract];omega
 have sx:M5 (Le rk) (xs.extract (sa+k) (sa+na)).toList:=by rw[xl];exact ba7 (fun i j h1 h2 h3=>u1 i j (by omega) h2 h3) (by omega)
 have sy:M5 (Le rk) (xs.extract (sa+na) (sa+na+k')).toList:=by rw[yl];exact ba7 (fun i j h1 h2 h3=>u2 i j h1 h2 (by omega)) (by omega)
 have fx:∀x,(xs.extract (sa+na) (sa+na+k'))[0]? =some x->∀y∈(xs.extract (sa+k) (sa+na)).toList,Le rk x y:=fun x hx y hy=>by
   rw[cg0 (by omega),eg8,ek] at hx;rw[xl] at hy;obtain ⟨i,h1,h2,h3⟩:=ac3 (by omega) hy;have:=kb1 i h1 h2;rw[M1 h3] at this;rw[<-Option.some.inj hx];exact eg2 this
 have ly:∀x∈(xs.extract (sa+na) (sa+na+k')).toList,∀y,(xs.extract (sa+k) (sa+na))[(xs.extract (sa+k) (sa+na)).size - 1]? =some y->Le rk x y:=fun x hx y hy=>by
   rw[xz,cg0 (by omega),show sa+k+(na - k - 1)=sa+na - 1 by omega,ek2] at hy;rw[yl] at hx;obtain ⟨i,h1,h2,h3⟩:=ac3 (by omega) hx;have:=ka2 i h1 h2;rw[M1 h3] at this;rw[<-Option.some.inj hy];exact eg2 this
 have fin:∀m t,MQ rk (xs.extract (sa+k) (sa+na)) (xs.extract (sa+na) (sa+na+k')) (setPending st pd) m t->Q true (setArr t (wr (sa+k) m.toList.zipIdx (arrOf t)))/\failedOf t=none:=by
   rintro m t ⟨⟨pm,sm⟩,l⟩
   have lm:m.toList.length=na - k+k':=by rw[pm.length_eq,dz9,ec0,ec0,xz,yz]
   have ea:arrOf t=xs:=by rw[l.arr,hxs]
   have hle:sa+k+m.toList.length<=xs.size:=by omega
   have esg:P2 xs (sa+k) (sa+k+m.toList.length)=P2 xs (sa+k) (sa+na)++P2 xs (sa+na) (sa+na+k'):=by
     rw[ac4 (by omega) (by omega) (by omega)];congr 1;omega
   have pm':m.toList.Perm (P2 xs (sa+k) (sa+k+m.toList.length)):=by rw[esg,<-xl,<-yl];exact pm
   have kw:=cf9 hle;have zw:=ao7 (sa+k) m.toList.zipIdx xs;refine ⟨h _ ⟨?_,l.kind.trans B1.kind,l.ok.trans B1.ok⟩ ?_ ?_ l.pend,l.ok.trans B1.ok⟩
   · show (wr (sa+k) m.toList.zipIdx (arrOf t)).Perm a0;rw[ea];refine (df0 hle pm').trans ?_;rw[hxs];exact B.perm
   · show Up rk (wr (sa+k) m.toList.zipIdx (arrOf t)) sa (sa+na+nb);rw[ea];refine dm5 ?_ (by omega)
     rw[<-ac4 (show sa<=sa+k by omega) (show sa+k<=sa+na+nb by omega) (by omega),<-ac4 (show sa+k<=sa+k+m.toList.length by omega) (show sa+k+m.toList.length<=sa+na+nb by omega) (by omega),cr7 hle,
       as1 zw kw (.inl (dz3 _)) (by omega),as1 zw kw (.inr (dz3 _)) (by omega)]
     have mm:∀x∈m.toList,(∃i,sa+k<=i/\i < sa+na/\xs[i]? =some x)\/(∃i,sa+na<=i/\i < sa+na+k'/\xs[i]? =some x):=fun x hx=>by
       have:=pm.mem_iff.mp hx;rw[xl,yl] at this
       rcases ea3.mp this with e|e
       · exact .inl (ac3 (by omega) e)
       · exact .inr (ac3 (by omega) e)
     refine Z3.mpr ⟨ba7 (fun i j h1 h2 h3=>u1 i j h1 h2 (by omega)) (by omega),Z3.mpr ⟨sm,ba7 (fun i j h1 h2 h3=>u2 i j (by omega) h2 h3) (by omega),fun x hx y hy=> ?_⟩,fun x hx y hy=> ?_⟩
     · obtain ⟨j,j1,j2,j3⟩:=ac3 (by omega) hy;have b2:=kb2 j (by omega) j2;rw[M1 j3] at b2
       rcases mm x hx with ⟨i,i1,i2,i3⟩|⟨i,i1,i2,i3⟩
       · have b1:=u1 i (sa+na - 1) (by omega) (by omega) (by omega);rw[M1 i3,rkey2] at b1;exact ea4 b1 b2
       · have b1:=ka2 i i1 i2;rw[M1 i3] at b1;show rk x<=rk y;omega
     · obtain ⟨i,i1,i2,i3⟩:=ac3 (by omega) hx;have b1:=ka1 i i1 i2;rw[M1 i3] at b1;show rk x<=rk y
       rcases ea3.mp hy with e|e
       · rcases mm y e with ⟨j,j1,j2,j3⟩|⟨j,j1,j2,j3⟩
         · have b2:=kb1 j j1 j2;rw[M1 j3] at b2;omega
         · have b2:=u2 (sa+na) j (dz3 _) j1 (by omega);rw[M1 j3,rkey] at b2;omega
       · obtain ⟨j,j1,j2,j3⟩:=ac3 (by omega) e;have b2:=u2 (sa+na) j (dz3 _) (by omega) j2;rw[M1 j3,rkey] at b2;omega
   · show G6 xs (wr (sa+k) m.toList.zipIdx (arrOf t)) _ _;rw[ea];exact kw.wide (by omega) (by omega)
 have ix:=ext0 (sa+k) (sa+na);have iy:=ext0 (sa+na) (sa+na+k');have k1:kindOf (setPending st pd)=κ:=B1.kind
 have end_:∀m t,MQ rk (xs.extract (sa+k) (sa+na)) (xs.extract (sa+na) (sa+na+k')) (setPending st pd) m t->Q (failedOf (setArr t (wr (sa+k) m.toList.zipIdx (arrOf t)))).isNone (setArr t (wr (sa+k) m.toList.zipIdx (arrOf t))):=fun m t q=>by
   obtain ⟨f1,f2⟩:=fin m t q;show Q (failedOf t).isNone _;rw[f2];exact f1
 rw[hxs] at ix iy sx sy fx ly end_ xz yz
 have g1:1<=((arrOf st).extract (sa+k) (sa+na)).size:=by rw[xz];omega
 have g2:1<=((arrOf st).extract (sa+na) (sa+na+k')).size:=by rw[yz];omega
 refine G7 (fun _=> ?_) (fun _=> ?_)
 · refine wpS_bind (wpS_mono (dm3 C k1 ix iy g1 g2 sx sy fx ly) fun m t q=> ?_);exact wpS_bind (wpS_modify (wpS_bind (wpS_get (wpS_pure (end_ m t q)))))
 · refine wpS_bind (wpS_mono (dm4 C k1 ix iy g1 g2 sx sy fx ly) fun m t q=> ?_);exact wpS_bind (wpS_modify (wpS_bind (wpS_get (wpS_pure (end_ m t q)))))
end
end TS
namespace TS
local macro_rules|`(tactic|omega)=>`(tactic|lia)
open PySem PyProof.Rows
section
variable {rk:Keyed->Nat}
def K0 (rk:Keyed->Nat)(xs:Array Keyed):List (Nat×Nat×Nat)->Nat->Nat->Prop
 |[],a,b=>a=b
 |q::r,a,b=>q.1=a/\1<=q.2.1/\Up rk xs a (a+q.2.1)/\K0 rk xs r (a+q.2.1) b
theorem K0.len {xs:Array Keyed}:∀{l:List (Nat×Nat×Nat)} {a b:Nat},K0 rk xs l a b->a+l.length<=b
 |[],a,b,h=>en8 h
 |q::r,a,b,⟨h1,h2,h3,h4⟩=>by
  have:=K0.len h4;rw[ee9];omega
theorem K0.app {xs:Array Keyed}:∀{l m:List (Nat×Nat×Nat)} {a b:Nat},K0 rk xs (l++m) a b↔∃c,K0 rk xs l a c/\K0 rk xs m c b
 |[],m,a,b=>⟨fun h=>⟨a,rfl,h⟩,fun ⟨c,e,h⟩=>by cases e;exact h⟩
 |q::r,m,a,b=>by
  constructor
  · rintro ⟨h1,h2,h3,h4⟩;obtain ⟨c,g1,g2⟩:=K0.app.mp h4;exact ⟨c,⟨h1,h2,h3,g1⟩,g2⟩
  · rintro ⟨c,⟨h1,h2,h3,h4⟩,g⟩;exact ⟨h1,h2,h3,K0.app.mpr ⟨c,h4,g⟩⟩
theorem K0.kept {xs ys:Array Keyed}{lo hi:Nat}(k:G6 xs ys lo hi):∀{l:List (Nat×Nat×Nat)} {a b:Nat},K0 rk xs l a b->b<=lo\/hi<=a->K0 rk ys l a b
 |[],a,b,h,_=>h
 |q::r,a,b,⟨h1,h2,h3,h4⟩,hk=>by
  have:=K0.len h4;exact ⟨h1,h2,k.up h3 (by omega),K0.kept k h4 (by omega)⟩
theorem bq3 {α:Type}:∀(l:List α) (x y z:α) (m:List α),((l++x::y::m).set l.length z).eraseIdx (l.length+1)=l++z::m
 |[],x,y,z,m=>rfl
 |a::l,x,y,z,m=>by
  show a::(((l++x::y::m).set l.length z).eraseIdx (l.length+1))=_;rw[bq3 l x y z m];rfl
theorem dm7 {α:Type}{l:List α}{i:Nat}(h:i+1 < l.length):l=l.take i++l[i]::l[i+1]::l.drop (i+2):=by
 have e1:=ei4 (show i < l.length by omega);have e2:=ei4 h;rw[<-e2,<-e1,eg5]
theorem cg1 {xs:Array Keyed}{pw:Nat}:∀{l:List (Nat×Nat×Nat)} {n a b:Nat},K0 rk xs l a b->K0 rk xs (l.modify n fun q=>(q.1,q.2.1,pw)) a b
 |[],n,a,b,h=>by cases n<;>exact h
 |q::r,0,a,b,⟨h1,h2,h3,h4⟩=>⟨h1,h2,h3,h4⟩
 |q::r,n+1,a,b,⟨h1,h2,h3,h4⟩=>⟨h1,h2,h3,cg1 h4⟩
end
section
variable {prog:Program} {w:World} {A:Around} {E:Value->Shared->Prop} {s:Shared}
variable {rk:Keyed->Nat} {a0:Array Keyed} {κ:SortKind}
theorem cr8 {st:SortSt}{i lo:Nat}{Q:Bool->SortSt->Prop}(C:Cm prog w A s κ rk a0)(B:Bs a0 κ st)(cv:K0 rk (arrOf st) (pendingOf st).toList 0 lo)(hl:lo<=a0.size)(hi:i+1 < (pendingOf st).size)
   (h:∀t,Bs a0 κ t->K0 rk (arrOf t) (pendingOf t).toList 0 lo->(pendingOf t).size+1=(pendingOf st).size->G6 (arrOf st) (arrOf t) 0 lo->Q true t):wpS (model prog w) A E s (mergeAt' i) Q st:=by
 obtain ⟨l,hl0⟩:∃l,l=(pendingOf st).toList:=⟨_,rfl⟩
 have ll:l.length=(pendingOf st).size:=by rw[hl0];simp
 have hil:i+1 < l.length:=by omega
 have e:=dm7 hil;rw[<-hl0,e] at cv;obtain ⟨c,c1,d1,d2,d3,f1,f2,f3,g⟩:=K0.app.mp cv;have lg:=K0.len g
 have e1:(pendingOf st)[i]? =some (c,l[i].2.1,l[i].2.2):=by
   rw[<-ee8,<-hl0,dz1 (by omega),<-d1]
 have e2:(pendingOf st)[i+1]? =some (c+l[i].2.1,l[i+1].2.1,l[i+1].2.2):=by
   rw[<-ee8,<-hl0,dz1 hil,<-f1]
 refine dm6 C B e1 e2 d2 f2 (by omega) d3 f3 fun t B' u k p=> ?_
 have lt:(l.take i).length=i:=by rw[eb2];omega
 have ep:(pendingOf t).toList=l.take i++(c,l[i].2.1+l[i+1].2.1,l[i].2.2)::l.drop (i+2):=by
   rw[p,Array.toList_eraseIdxIfInBounds,Array.toList_setIfInBounds,<-hl0];have:=bq3 (l.take i) l[i] l[i+1] (c,l[i].2.1+l[i+1].2.1,l[i].2.2) (l.drop (i+2));rw[lt,<-e] at this;exact this
 have lc:=K0.len c1;refine h t B' ?_ ?_ (k.wide (eb4 _) (by omega))
 · rw[ep];refine K0.app.mpr ⟨c,K0.kept k c1 (.inl (dz3 _)),rfl,by show 1<=l[i].2.1+l[i+1].2.1;omega,?_,?_⟩
   · show Up rk (arrOf t) c (c+(l[i].2.1+l[i+1].2.1));rw[<-eo5];exact u
   · show K0 rk (arrOf t) (l.drop (i+2)) (c+(l[i].2.1+l[i+1].2.1)) lo;rw[<-eo5];exact K0.kept k g (.inr (dz3 _))
 · rw[<-ec0,ep,dz9,ee9,ed2,lt];omega
theorem dr4 {c:Prop}[Decidable c]{a b n:Nat}(h1:a<=n)(h2:b<=n):(if c then a else b)<=n:=by split<;>assumption
theorem cy2 {t:SortSt}{lo n:Nat}(cv:K0 rk (arrOf t) (pendingOf t).toList 0 lo)(n1:1<=n)(u:Up rk (arrOf t) lo (lo+n)):K0 rk (arrOf t) ((pendingOf t).push (lo,n,0)).toList 0 (lo+n):=by
 rw[em2];exact K0.app.mpr ⟨lo,cv,rfl,n1,u,rfl⟩
theorem dx6 {st:SortSt}{Q:Unit->SortSt->Prop}(C:Cm prog w A s κ rk a0)(B:Bs a0 κ st)(pe:pendingOf st= #[])(h2:2<=a0.size)
   (h:∀t,Bs a0 κ t->Up rk (arrOf t) 0 a0.size->Q () t):wpS (model prog w) A E s sortRuns' Q st:=by
 rw[sortRuns'_eq];refine wpS_bind (wpS_get ?_)
 dsimp only
 rw[B.size];generalize minRun' a0.size a0.size 0=mr
 refine wpS_bind (wpS_mono (wpS_forRange (I:=fun x c t=>∃lo,c=(none,lo)/\Bs a0 κ t/\K0 rk (arrOf t) (pendingOf t).toList 0 lo/\lo<=a0.size/\(x<=lo\/a0.size<=lo))
   (Q:=fun c t=>∃lo,c=(none,lo)/\Bs a0 κ t/\K0 rk (arrOf t) (pendingOf t).toList 0 lo/\lo=a0.size) ?step ?fin ⟨0,rfl,B,by rw[pe];exact rfl,eb4 _,.inl (dz3 _)⟩) ?post)
 case fin=>
   rintro c t ⟨lo,rfl,B',cv,h3,h4⟩;exact ⟨lo,rfl,B',cv,by omega⟩
 case step=>
   rintro x c t _ xn ⟨lo,rfl,B',cv,h3,h4⟩;refine G7 (fun z=>wpS_pure ⟨lo,rfl,B',cv,by have z:lo≥a0.size:=z;omega⟩) (fun z=> ?_);have z:¬lo≥a0.size:=z;refine wpS_bind (wpS_mono (dm1 (lo:=lo) (nrem:=a0.size - lo) C (by omega) (by omega) B') ?_);rintro r t1 ⟨n,rfl,B1,n1,n2,u1,k1,p1⟩
   have cv1:K0 rk (arrOf t1) (pendingOf t1).toList 0 lo:=by rw[p1];exact K0.kept k1 cv (.inl (dz3 _))
   clear k1 p1;refine G7 (fun y=> ?_) (fun y=> ?_);have y:n < mr:=y;refine wpS_bind (wpS_lift (wpAny_rule ⟨rfl,?_⟩));refine wpS_bind (dm0 (lo:=lo) (n:=min (a0.size - lo) mr) (ok:=n) C (by omega) (by omega) B1 u1 fun t2 B2 u2 k2 p2=> ?_);refine G7 (fun h=>absurd h (by decide)) (fun _=> ?_)
   have cv2:K0 rk (arrOf t2) (pendingOf t2).toList 0 lo:=by rw[p2];exact K0.kept k2 cv1 (.inl (dz3 _))
   have N1:1<=min (a0.size - lo) mr:=by omega
   have N2:lo+min (a0.size - lo) mr<=a0.size:=by omega
   clear p2 k2;generalize min (a0.size - lo) mr=N at u2 N1 N2 ⊢
   rotate_left
   have N1:1<=n:=n1
   have N2:lo+n<=a0.size:=by omega
   have B2:=B1;have u2:=u1;have cv2:=cv1;generalize t1=t2 at B2 u2 cv2 ⊢;generalize n=N at N1 N2 u2 ⊢
   rotate_left
   all_goals
     refine wpS_bind (wpS_get ?_)
     cases hb:(pendingOf t2).back? with
     |none=>
      exact wpS_bind (wpS_modify (wpS_pure ⟨lo+N,rfl,⟨B2.perm,B2.kind,B2.ok⟩,cy2 cv2 N1 u2,N2,by omega⟩))
     |some q=>
      obtain ⟨s1,m1,pw⟩:=q
      refine wpS_bind (wpS_mono (wpS_forRange (I:=fun y c t=>c=(none,())/\Bs a0 κ t/\K0 rk (arrOf t) (pendingOf t).toList 0 lo/\Up rk (arrOf t) lo (lo+N))
        (Q:=fun c t=>c=(none,())/\Bs a0 κ t/\K0 rk (arrOf t) (pendingOf t).toList 0 lo/\Up rk (arrOf t) lo (lo+N)) ?_ (fun _ _ h=>h) ⟨rfl,B2,cv2,u2⟩) ?_)
      · rintro y c t3 _ yn ⟨rfl,B3,cv3,u3⟩;refine wpS_bind (wpS_get ?_)
        by_cases g:(pendingOf t3).size > 1
        · rw[if_pos g,es8 (show (pendingOf t3).size - 2 < (pendingOf t3).size by omega)];refine G7 (fun _=>wpS_pure ⟨rfl,B3,cv3,u3⟩) (fun _=> ?_);refine wpS_bind (cr8 C B3 cv3 (by omega) (by omega) fun t4 B4 cv4 sz k4=> ?_);refine G7 (fun h=>absurd h (by decide)) (fun _=> ?_);exact wpS_pure ⟨rfl,B4,cv4,k4.up u3 (.inr (dz3 _))⟩
        · rw[if_neg g];exact wpS_pure ⟨rfl,B3,cv3,u3⟩
      · rintro c t3 ⟨rfl,B3,cv3,u3⟩;refine wpS_bind (wpS_modify (wpS_bind (wpS_modify (wpS_pure ⟨lo+N,rfl,⟨B3.perm,B3.kind,B3.ok⟩,?_,N2,by omega⟩))));show K0 rk (arrOf t3) (ef9 (Array.push (Array.modify (pendingOf t3) _ _) (lo,N,0))) 0 (lo+N);rw[em2,Array.toList_modify];exact K0.app.mpr ⟨lo,cg1 cv3,rfl,N1,u3,rfl⟩
 case post=>
   rintro c t ⟨lo,rfl,B',cv,rfl⟩
   dsimp only
   have lc:=K0.len cv
   refine wpS_bind (wpS_mono (wpS_forRange (I:=fun x c t=>c=(none,())/\Bs a0 κ t/\K0 rk (arrOf t) (pendingOf t).toList 0 a0.size/\((pendingOf t).size<=1\/(pendingOf t).size+x<=a0.size))
     (Q:=fun c t=>c=(none,())/\Bs a0 κ t/\K0 rk (arrOf t) (pendingOf t).toList 0 a0.size/\(pendingOf t).size<=1) ?stepE ?finE ⟨rfl,B',cv,.inr (by rw[<-ec0];omega)⟩) ?postE)
   case finE=>
     rintro c t ⟨rfl,B',cv,z⟩;exact ⟨rfl,B',cv,by omega⟩
   case stepE=>
     rintro x c t _ xn ⟨rfl,B',cv,z⟩;refine wpS_bind (wpS_get ?_);refine G7 (fun y=>wpS_pure ⟨rfl,B',cv,y⟩) (fun y=> ?_);have y:¬(pendingOf t).size<=1:=y;refine wpS_bind (cr8 C B' cv (dz3 _) ?_ fun t2 B2 cv2 sz _=> ?_)
     · exact eb5 (et4 (dr4 (n:=(pendingOf t).size - 2) (by omega) (dz3 _))) (by omega)
     · exact wpS_pure ⟨rfl,B2,cv2,by omega⟩
   case postE=>
     rintro c t ⟨rfl,B',cv,z⟩;refine wpS_pure (h t B' ?_);obtain ⟨l,hl⟩:∃l,l=(pendingOf t).toList:=⟨_,rfl⟩
     have ll:l.length<=1:=by rw[hl,ec0];exact z
     rw[<-hl] at cv
     match l,ll,cv with
     |[],_,cv=>have:0=a0.size:=cv;omega
     |[q],_,⟨c1,c2,c3,c4⟩=>
      have c4:0+q.2.1=a0.size:=c4;rw[c4] at c3;exact c3
end
end TS
namespace L2
local macro_rules|`(tactic|omega)=>`(tactic|lia)
open PySem PySem.Spec PyProof.Rows
section
variable {prog:Program} {w:World} {A:Around} {E:Value->Shared->Prop} {s:Shared}
structure bi4 (prog:Program)(w:World)(A:Around)(s:Shared)(rk:Value->Nat)(vs:List Value):Prop where
 kind:2<=vs.length->∀(Q:SortKind->Shared->Prop) (E:Value->Shared->Prop),Q oneType' s->wpAny (model prog w) A (keyKind' vs.toArray) Q E s
 less:∀x∈vs,∀y∈vs,∀(Q:Bool->Shared->Prop) (E:Value->Shared->Prop),Q (decide (rk x < rk y)) s->wpAny (model prog w) A (oneLt' true x y) Q E s
theorem bm2 {vs:List Value}{p:Keyed}(h:p∈(pairsOf vs).toList):p.1∈vs/\p.2=p.1:=by
 rw[pairsOf_toList] at h;obtain ⟨i,hi⟩:=ec1.mp h;obtain ⟨x,y⟩:=p;rw[List.getElem?_zip_eq_some] at hi;obtain ⟨e1,e2⟩:=hi;rw[e1] at e2;exact ⟨dz8 e1,(Option.some.inj e2).symm⟩
theorem dm8 {rk:Value->Nat}{vs:List Value}{xs:Array Keyed}(hp:xs.Perm (pairsOf vs))(u:TS.Up (fun p=>rk p.1) xs 0 xs.size):(xs.map (·.2)).toList.Perm vs/\(xs.map (·.2)).toList.Pairwise (fun x y=>rk x<=rk y):=by
 have pl:=ej8.mp hp
 have e:xs.toList.map (·.2)=xs.toList.map (·.1):=ef3 fun p hp'=>(bm2 (pl.mem_iff.mp hp')).2
 rw[et8];constructor
 · refine (pl.map _).trans ?_;rw[<-et8,bq2]
 · show List.Pairwise _ (xs.toList.map (·.2));rw[e];exact ei3.mpr (TS.du0 u)
theorem dr5 {rk:Value->Nat}{vs:List Value}(h:bi4 prog w A s rk vs):TS.Cm prog w A s oneType' (fun p=>rk p.1) (pairsOf vs):=fun x hx y hy Q E' q=>by
 rw[keyLt'_oneType];exact h.less x.1 (bm2 hx).1 y.1 (bm2 hy).1 Q E' q
theorem dr6 {a:Addr}{vs:List Value}{rk:Value->Nat}{n:Nat}{P:Fin->Shared->Prop}(ho:s.heap.get? a=some (seqObj "list" vs.toArray n))(hl:vs.length<=sizeLine)
   (ok:∀h':Heap,(∀b o,b≠a->s.heap.get? b=some o->h'.get? b=some o)->bi4 prog w A {s with heap:=h'} rk vs)
   (h:∀out:List Value,out.Perm vs->out.Pairwise (fun x y=>rk x<=rk y)->P (.done (.ret .none)) {s with heap:=sortedHeap s.heap a vs out.toArray}):wpAny (model prog w) A (Builtin.«list.sort» ⟨[.ref a],[]⟩) P E s:=by
 rw[list_sort_plain];have ha:a < s.heap.objs.size:=Heap.lt_size ho
 have hsz:vs.toArray.size=vs.length:=by simp
 refine wpAny_bind (listItems_at ho rfl ?_);refine wpAny_bind (listUpdate_at ho rfl ?_ (by rw[hsz];exact hl) (eb4 _));obtain ⟨e1,ho1⟩:∃e1,(s.heap.update a (Obj.mapSeq fun _=> #[])).get? a=some (seqObj "list" #[] e1):=⟨_,get?_update_seq ho (fun _=> #[])⟩;refine wpAny_bind (seqEpoch_at ho1 rfl ?_);refine wpAny_bind (wpAny_newTuple ?_ (hsz:=hl));refine wpAny_bind (wpAny_newList ?_);refine wpAny_holding ?_;obtain ⟨H6,e6⟩:∃H6,H6=((s.heap.update a (Obj.mapSeq fun _=> #[])).push (seqObj "tuple" vs.toArray 0)).push (seqObj "list" #[] 0):=⟨_,rfl⟩
 have ho6:H6.get? a=some (seqObj "list" #[] e1):=by
   rw[e6,Heap.get?_push_ne _ _ _ (by rw[size_push',Heap.size_update];exact ee3 (es6 ha)),Heap.get?_push_ne _ _ _ (by rw[Heap.size_update];exact ee3 ha)];exact ho1
 have old:∀b o,b≠a->s.heap.get? b=some o->H6.get? b=some o:=by
   intro b o nb hb;rw[e6];refine Heap.get?_push_of_some _ (Heap.get?_push_of_some _ ?_);rw[Heap.get?_update_ne _ _ _ _ nb];exact hb
 have ok6:=ok H6 old;show wpAny (model prog w) A _ P E {s with heap:=((s.heap.update a (Obj.mapSeq fun _=> #[])).push (seqObj "tuple" vs.toArray 0)).push (seqObj "list" #[] 0)};unfold sortedHeap at h;rw[<-e6] at h ⊢
 dsimp only
 by_cases h2:vs.toArray.size < 2
 · rw[if_pos h2,if_pos h2];refine wpAny_bind (wpAny_pure ?_);rw[StateT.run_pure];refine wpAny_bind (wpAny_pure ?_)
   dsimp only
   refine wpAny_bind (seqEpoch_at ho6 rfl ?_);have ee:(arrOf (SortSt.mk' general' (vs.toArray.zip vs.toArray) #[] 7 none)).map (·.2)=vs.toArray:=bq2 vs;rw[ee];refine wpAny_bind (listUpdate_at ho6 rfl ?_ (eb4 _) (by rw[hsz];omega));simp only[bne_self_eq_false,ei8,if_false];refine wpAny_pure (h vs (List.Perm.refl _) ?_)
   match vs,hsz,h2 with
   |[],_,_=>exact List.Pairwise.nil
   |[_],_,_=>exact ek8 _ _
   |_::_::_,_,h2=>simp at h2;omega
 · rw[if_neg h2,if_neg h2];refine wpAny_bind (ok6.kind (by omega) _ _ ?_)
   refine wpAny_bind (wpAny_mono (TS.dx6 (s:={s with heap:=H6}) (st:=SortSt.mk' oneType' (vs.toArray.zip vs.toArray) #[] 7 none) (a0:=pairsOf vs) (rk:=fun p=>rk p.1)
     (Q:=fun _ st'=>(arrOf st').Perm (pairsOf vs)/\failedOf st'=none/\TS.Up (fun p=>rk p.1) (arrOf st') 0 (pairsOf vs).size) (dr5 ok6) ⟨Array.Perm.refl _,rfl,rfl⟩ rfl (by rw[pairsOf_size];omega) fun t B u=>⟨B.perm,B.ok,u⟩) ?_ fun _ _ e=>e)
   rintro ⟨⟨⟩,st'⟩ s' ⟨rfl,hp,hf,hu⟩
   dsimp only
   rw[<-hp.size_eq] at hu;obtain ⟨o1,o2⟩:=dm8 hp hu;refine wpAny_bind (seqEpoch_at ho6 rfl ?_);refine wpAny_bind (listUpdate_at ho6 rfl ?_ (eb4 _) (by rw[Array.size_map,hp.size_eq,pairsOf_size];omega));rw[hf];simp only[bne_self_eq_false,ei8,if_false];have:=h _ o1 o2;rw[Array.toArray_toList] at this;exact wpAny_pure this
theorem df2 {l:Addr}{vs:List Value}{rk:Value->Nat}{Q:Value->Shared->Prop}(pl:s.heap.IsList l vs.toArray)(hl:vs.length<=sizeLine)
   (ok:∀h':Heap,(∀b o,b < s.heap.objs.size->s.heap.get? b=some o->h'.get? b=some o)->bi4 prog w A.in1.in1 {s with heap:=h'} rk vs)
   (h:∀out:List Value,out.Perm vs->out.Pairwise (fun x y=>rk x<=rk y)->Q (.ref (s.heap.objs.size+1)) {s with heap:=sortedAll s.heap vs out.toArray}):wpAny (model prog w) A (call (.builtin "sorted") [.ref l]) Q E s:=by
 refine Calls.call_function_entry kind_sorted plain_sorted entry_sorted (args_sorted1 _) ?_;unfold Builtin.«sorted»;refine wpAny_bind (m:=checkCount "sorted" 1 1 _) (wpAny_pure ?_);refine wpAny_bind (collect_list pl ?_ hl);refine wpAny_bind (wpAny_newList ?_ (hsz:=hl))
 have hsz:((s.heap.push (seqObj "list" #[] 0)).update s.heap.objs.size (Obj.mapSeq (· ++vs.toArray))).objs.size=s.heap.objs.size+1:=by
   rw[Heap.size_update,size_push']
 have hoL:(((s.heap.push (seqObj "list" #[] 0)).update s.heap.objs.size (Obj.mapSeq (· ++vs.toArray))).push (seqObj "list" vs.toArray 0)).get? (s.heap.objs.size+1)=some (seqObj "list" vs.toArray 0):=by
   rw[<-hsz];exact Heap.get?_push_size _ rfl
 show wpAny _ _ _ _ _ {s with heap:=((s.heap.push (seqObj "list" #[] 0)).update s.heap.objs.size (Obj.mapSeq (· ++vs.toArray))).push (seqObj "list" vs.toArray 0)};rw[hsz];refine wpAny_bind (wpAny_holding (wpAny_call_entry slot_list_sort ⟨_,hoL,rfl⟩ entry_list_sort (dr6 hoL hl (rk:=rk) (fun h' old=>ok h' fun b o lt e=>old b o (ee3 (es6 lt)) ?_) fun out o1 o2=>⟨_,rfl,?_⟩) (args_list_sort _)))
 · refine Heap.get?_push_of_some _ ?_;rw[Heap.get?_update_ne _ _ _ _ (ee3 lt)];exact Heap.get?_push_of_some _ e
 · exact wpAny_pure ⟨_,rfl,h out o1 o2⟩
end
end L2
namespace L2
local macro_rules|`(tactic|omega)=>`(tactic|lia)
open PySem PySem.Spec PyProof.Rows
section
variable {α:Type}
theorem as2 {p q:α->Bool}(h:∀a,p a=true->q a=true):∀{l:List α} {x:α},x∈l->p x=false->q x=true->l.countP p < l.countP q
 |[],x,hx,_,_=>by cases hx
 |y::l,x,hx,px,qx=>by
  have le:l.countP p<=l.countP q:=List.countP_mono_left fun a _=>h a
  rw[ej0,ej0]
  by_cases e:x=y
  · subst e;rw[px,qx];simp;omega
  · have hx':x∈l:=by
      rcases ea8.mp hx with z|z
      · exact absurd z e
      · exact z
    have:=as2 h hx' px qx
    cases hp:p y with
    |false=>simp;split<;>omega
    |true=>rw[h y hp];simp;omega
def ax8 (lt:α->α->Bool)(l:List α)(x:α):Nat:=l.countP fun y=>lt y x
theorem df3 {lt:α->α->Bool}(ir:∀a,lt a a=false)(tr:∀a b c,lt a b=true->lt b c=true->lt a c=true)(tot:∀a b,lt a b=false->lt b a=true\/a=b){l:List α}{x y:α}(hx:x∈l)(hy:y∈l):decide (ax8 lt l x < ax8 lt l y)=lt x y:=by
 unfold ax8
 cases h:lt x y with
 |true=>exact decide_eq_true (as2 (fun a ha=>tr a x y ha h) hx (ir x) h)
 |false=>
  refine decide_eq_false ?_
  rcases tot x y h with z|z
  · have:=as2 (fun a ha=>tr a y x ha z) hy (ir y) z;omega
  · rw[z];omega
theorem df4 {lt:α->α->Bool}(ir:∀a,lt a a=false)(tr:∀a b c,lt a b=true->lt b c=true->lt a c=true){l:List α}{x y:α}(hy:y∈l)(h:ax8 lt l x<=ax8 lt l y):lt y x=false:=by
 cases z:lt y x with
 |false=>rfl
 |true=>
  have:=as2 (l:=l) (fun a ha=>tr a y x ha z) hy (ir y) z;unfold ax8 at h;omega
end
theorem ao8:∀a:List Int,HT.ba0 a a=false
 |[]=>rfl
 |x::a=>by rw[HT.cj0,if_pos rfl];exact ao8 a
theorem cg2:∀a b:List Int,HT.ba0 a b=false->HT.ba0 b a=true\/a=b
 |[],[],_=> .inr rfl
 |[],_::_,h=>by rw[HT.dc2] at h;cases h
 |_::_,[],_=> .inl rfl
 |x::a,y::b,h=>by
  rw[HT.cj0] at h ⊢
  by_cases e:x=y
  · rw[if_pos e] at h;rw[if_pos e.symm]
    rcases cg2 a b h with z|z
    · exact .inl z
    · exact .inr (by rw[e,z])
  · rw[if_neg e] at h;rw[if_neg (fun z=>e z.symm)];have:=of_decide_eq_false h;exact .inl (decide_eq_true (by omega))
theorem bi5:∀a b c:List Int,HT.ba0 a b=true->HT.ba0 b c=true->HT.ba0 a c=true
 |[],[],_,h,_=>by cases h
 |_::_,[],_,h,_=>by cases h
 |_,_::_,[],_,h=>by cases h
 |[],_::_,_::_,_,_=>rfl
 |x::a,y::b,z::c,h,g=>by
  rw[HT.cj0] at h g ⊢
  by_cases e:x=y
  · subst e;rw[if_pos rfl] at h
    by_cases e2:x=z
    · subst e2;rw[if_pos rfl] at g ⊢;exact bi5 a b c h g
    · rw[if_neg e2] at g ⊢;exact g
  · rw[if_neg e] at h;have h1:=of_decide_eq_true h
    by_cases e2:y=z
    · subst e2;rw[if_neg e];exact h
    · rw[if_neg e2] at g;have g1:=of_decide_eq_true g;rw[if_neg (by omega)];exact decide_eq_true (by omega)
section
variable {prog:Program} {w:World} {A:Around} {E:Value->Shared->Prop} {s:Shared}
theorem cr9 (hu:A.units < cLine){x y:Value}{ns ms:List Int}(hx:ak2 s.heap x ns)(hy:ak2 s.heap y ms){Q:Bool->Shared->Prop}(q:Q (HT.ba0 ns ms) s):wpAny (model prog w) A (oneLt' true x y) Q E s:=by
 obtain ⟨p,xs,n,rfl,ox,ix⟩:=hx;obtain ⟨p2,ys,m,rfl,oy,iy⟩:=hy;rw[oneLt'_eq];simp only[if_true];refine wpAny_bind (wpAny_cRoomFor hu ?_);refine wpAny_bind (wpAny_callSpecialIfBound?_slot (T:="list") ⟨_,ox,rfl⟩ PySem.F.slot_list_lt (call_meets PySem.F.slot_list_lt ⟨_,ox,rfl⟩ PySem.F.entry_list_lt (PySem.F.args_list_lt_2 _ _) (HT.dl9 p p2 xs ys n m ns ms ix iy) ⟨⟨ox,oy⟩,?_⟩));exact wpAny_truthy_bool q
def adr:Value->Addr
 | .ref a=>a
 |_=>0
theorem ae2:∀{bs:List Addr} {us:List Value},m7 (bs.map V.ref) us->us=bs.map Value.ref
 |[],us,h=>by cases h;rfl
 |b::bs,us,h=>by
  cases h with
  |cons h1 h2=>
   cases h1;rw[ae2 h2];rfl
theorem bq4:∀bs:List Addr,m7 (bs.map V.ref) (bs.map Value.ref)
 |[]=> .nil
 |b::bs=> .cons rfl (bq4 bs)
theorem cy3 {bs:List Addr}{R:Addr->List Int}(hu:A.units < cLine)(row:∀b∈bs,ak2 s.heap (.ref b) (R b)):bi4 prog w A s (fun v=>ax8 HT.ba0 (bs.map R) (R (adr v))) (bs.map Value.ref):=by
 constructor
 · intro h2 Q E q
   match bs,h2,row with
   |[],h2,_=>simp at h2
   |[_],h2,_=>simp at h2
   |b1::b2::bs,_,row=>
    have hr:∀v,v∈Value.ref b1::Value.ref b2::bs.map Value.ref->∃ns,ak2 s.heap v ns:=fun v hv=>by
      obtain ⟨b,hb,rfl⟩:=ea2.mp (show v∈(b1::b2::bs).map Value.ref from hv);exact ⟨_,row b hb⟩
    exact cr4 hr q
 · intro x hx y hy Q E q;obtain ⟨b,hb,rfl⟩:=ea2.mp hx;obtain ⟨c,hc,rfl⟩:=ea2.mp hy;refine cr9 hu (row b hb) (row c hc) ?_;have:=df3 ao8 bi5 cg2 (l:=bs.map R) (ea2.mpr ⟨b,hb,rfl⟩) (ea2.mpr ⟨c,hc,rfl⟩);show Q (HT.ba0 (R b) (R c)) s;rw[<-this];exact q
end
end L2
namespace L2
local macro_rules|`(tactic|omega)=>`(tactic|lia)
open PySem PySem.Spec PyProof.Rows
section
variable {X:Cx}
theorem by6 (hu:X.A.in1.in1.units < cLine):X7 X (.builtin "sorted") (fun xs H Q=>∃(p:Addr) (bs:List Addr) (rs:List (List Int)),xs=[.ref p]/\h8 X.K H p (bs.map V.ref)/\o3 H bs rs/\
   ∀(cs:List Addr) (ts:List (List Int)) l,cs.Perm bs->ts.Perm rs->o3 H cs ts->ts.Pairwise (fun r r'=>HT.ba0 r' r=false)->H l=none->Q (.ref l) (c9 H l (.lst (cs.map V.ref)))):=by
 intro pins s σ H xs us Q I r h;obtain ⟨p,bs,rs,rfl,hp,hr,q⟩:=h;obtain ⟨u,rfl,rx⟩:=aq1 r;cases rx;obtain ⟨its,rv,pl,hl⟩:=I.list hp;have ev:=ae2 rv;subst ev
 have rows:∀b∈bs,∃r:List Int,H b=some (.lst (r.map V.int)):=fun b hb=>by
   obtain ⟨j,hj⟩:=ec1.mp hb
   have hjl:j < rs.length:=by rw[<-hr.1];exact (dz2.mp hj).1
   exact ⟨_,hr.2 j b _ hj (dz1 hjl)⟩
 have er:=cj9 hr
 have each:∀h':Heap,(∀b o,b < s.heap.objs.size->s.heap.get? b=some o->h'.get? b=some o)->∀b∈bs,ak2 h' (.ref b) (U5 H b):=by
   intro h' old b hb;obtain ⟨r,e⟩:=rows b hb;obtain ⟨_,its,n,v,g⟩:=(show B9 X.prog X.w H s.heap b (.lst (r.map V.int)) from I.hok b _ e);rw[ah6 e];exact ⟨b,its.toArray,n,rfl,old b _ (Heap.lt_size g) g,by simpa using bg7 v⟩
 have hll:(bs.map V.ref).length=bs.length:=dz0 ..
 refine df2 (rk:=fun v=>ax8 HT.ba0 (bs.map (U5 H)) (U5 H (adr v))) pl.isList (by rw[dz0];omega) (fun h' old=>cy3 hu (each h' old)) fun out o1 o2=> ?_
 have eo:out=(out.map adr).map Value.ref:=by
   rw[ee4];refine (en6 out).symm.trans (ef3 fun v hv=> ?_);obtain ⟨b,_,rfl⟩:=ea2.mp (o1.mem_iff.mp hv);rfl
 have pb:(out.map adr).Perm bs:=by
   have:=o1.map adr;rw[ee4] at this;have e2:bs.map (adr∘Value.ref)=bs:=(ef3 fun b _=>rfl).trans (en6 bs);rw[e2] at this;exact this
 have st:((out.map adr).map (U5 H)).Pairwise (fun r r'=>HT.ba0 r' r=false):=by
   rw[ee4];refine ei3.mpr (List.Pairwise.imp_of_mem (fun {x y} hx hy h=> ?_) o2);refine df4 ao8 bi5 (l:=bs.map (U5 H)) ?_ h;exact ea2.mpr ⟨adr y,pb.mem_iff.mp (ea2.mpr ⟨y,hy,rfl⟩),rfl⟩
 have rw':o3 H (out.map adr) ((out.map adr).map (U5 H)):=⟨(dz0 ..).symm,fun j a r e1 e2=>by
   rw[dz4,e1] at e2;have:=Option.some.inj e2;obtain ⟨r',e⟩:=rows a (pb.mem_iff.mp (dz8 e1))
   rw[<-this,ah6 e];exact e⟩
 have pr:((out.map adr).map (U5 H)).Perm rs:=by rw[<-er];exact pb.map _
 obtain ⟨e,he⟩:=sortedAll_at s.heap (bs.map Value.ref) out.toArray;refine ⟨.ref (s.heap.objs.size+1),_,I.laid (t':=s.toks) (fun _ _ q=>sortedAll_old q) (er6 _) (show B9 X.prog X.w _ _ _ (.lst ((out.map adr).map V.ref)) from ⟨by rw[dz0,pb.length_eq];omega,out,e,?_,he⟩),rfl,q _ _ _ pb pr rw' st (I.hok.fresh (er6 _))⟩;have:=bq4 (out.map adr);rw[<-eo] at this;exact this
variable {e:Expr} {t:TA} {p pos kpos:Pos}
def cy4 (K:PySem.W.Frag)(t:TA):TE:=tCB (fun xs H Q=>∃(p:Addr) (bs:List Addr) (rs:List (List Int)),xs=[.ref p]/\h8 K H p (bs.map V.ref)/\o3 H bs rs/\
 ∀(cs:List Addr) (ts:List (List Int)) l,cs.Perm bs->ts.Perm rs->o3 H cs ts->ts.Pairwise (fun r r'=>HT.ba0 r' r=false)->H l=none->Q (.ref l) (c9 H l (.lst (cs.map V.ref)))) t
theorem cd2 (hu:X.A.units+1+1 < cLine)(hm:X.mg "sorted"=none)(ha:PA X [e] t)(hg:Gl X "sorted":=by rfl)(he:starEach [e] X.env=(false,eval e X.env)::starEach [] X.env:=by rfl):
 PE X (.Call (.Name "sorted" p) [e] [] pos) (cy4 X.K t):=Y1 (by6 (by simpa [Around.in1] using hu)) hg hm bw7 ha (by decide) (by decide) he rfl
end
end L2
namespace Mth
local macro_rules|`(tactic|omega)=>`(tactic|lia)
open L2 (ab7)
def ck5 (rs:List (List Int)):Prop:=rs.Pairwise fun r r'=>HT.ba0 r' r=false
theorem as3:∀{a b:List (List Int)},a.Perm b->ck5 a->ck5 b->a=b
 |[],b,p,_,_=>(List.Perm.nil_eq p)
 |r::a,[],p,_,_=>absurd p.length_eq (by simp)
 |r::a,q::b,p,ha,hb=>by
  have h1:=er2.mp ha;have h2:=er2.mp hb
  have e:r=q:=by
    rcases ea8.mp (p.mem_iff.mp dz7) with z|z
    · exact z
    · rcases ea8.mp (p.mem_iff.mpr (dz7:q∈q::b)) with y|y
      · exact y.symm
      · have g1:=h2.1 r z;have g2:=h1.1 q y
        rcases L2.cg2 r q g1 with u|u
        · rw[g2] at u;cases u
        · exact u
  subst e;rw[as3 (List.Perm.cons_inv p) h1.2 h2.2]
end Mth
namespace L2
local macro_rules|`(tactic|omega)=>`(tactic|lia)
open PySem PySem.Spec PyProof PyProof.Rows
def dr7 (i j:Int):Prop:=i.natAbs < 2^20000/\j.natAbs < 2^20000
theorem df5 {i j:Int}{n:Nat}(hn:n<=2^20)(h1:i.natAbs < 2^n)(h2:j.natAbs < 2^n):IntMulOk i j:=by
 refine IntMulOk.of_bits ?_ ?_
 · exact ea4 (PySem.intBits_le_iff.mpr h1) hn
 · exact ea4 (PySem.intBits_le_iff.mpr h2) hn
theorem P5 {X:Cx}:P1 X (binaryOp .Mult) (rI dr7 fun i j=> .int (i*j)):=opI fun _ _ _ _ _ _ _ hc q=>mul_int q (df5 (by decide) hc.1 hc.2)
end L2
namespace L2
local macro_rules|`(tactic|omega)=>`(tactic|lia)
open PySem PySem.Spec PyProof PyProof.Rows
open PySem.Builtin PySem.Builtin.Str PySem.Builtin.BaseException PySem.Builtin.Exceptions
section
variable {X:Cx}
structure dw9 (K:PySem.W.Frag)(C:Addr):Prop where
 str:PySem.W.findIn K (.ref C) "__str__"=some (some (.builtin "BaseException.__str__"))
 bex:PySem.W.mroIn K C (.type "BaseException")=some true
end
end L2
namespace L2
local macro_rules|`(tactic|omega)=>`(tactic|lia)
open PySem PySem.Spec PyProof.Rows
section
variable {P:Program} {w:World} {K:PySem.W.Frag} {mg:Str->Option Value} {base h:Heap} {x:Str} {st:Stmt} {f:Addr} {fd:FuncData} {ps:List Str} {k:Nat} {sp:Sp}
def Fu (K:PySem.W.Frag)(x:Str)(st:Stmt)(f:Addr):Prop:=∃fd,PySem.W.nsIn K mainGlobals x=some (some (.ref f))/\C7 K x x st f fd
theorem dr8 {oc:Value}{od an:Option Addr}{osl:Array (Option Value)}{kV doc pm cdv ct:Value}(a:PySem.W.nsIn K mainGlobals x=some (some (.ref f)))(l:K.lookup f=some ⟨oc,od,.func (PySem.W.fnOf x x (ag4 st) (Z1 st) (j7 st) .none kV doc pm an cdv ct),osl⟩)
 (c:PySem.W.codeIn K cdv x=true) (k:PySem.W.keepIn K (.ref f)=true):Fu K x st f:=⟨_,a,dk9 l c k⟩
theorem i9 (X:K.In h)(G:h.Ns mainGlobals mg)(a:PySem.W.nsIn K mainGlobals x=some (some (.ref f)))(F:C7 K x x st f fd)(b:af9 K fd ps [])(ok:n6 P w K mg base E9 k f fd ps sp):n0 P w K mg base x k ps sp:=⟨f,fd,PySem.W.mg_of X G a,F.kp,b,ok⟩
theorem ba8 (X:K.In h)(G:h.Ns mainGlobals mg)(a:PySem.W.nsIn K mainGlobals x=some (some (.ref f)))(F:C7 K x x st f fd)(b:af9 K fd ps [])(ok:n6 P w K mg base (CX1 P w) k f fd ps sp):ac0 P w K mg base x k ps sp:=⟨f,fd,PySem.W.mg_of X G a,F.kp,b,ok⟩
def Fre (K:PySem.W.Frag):List Str->Prop
 |[]=>True
 |x::l=>PySem.W.nsIn K mainGlobals x=some none/\Fre K l
structure ClF (K:PySem.W.Frag)(T:Addr)(x:Str)(q:Addr):Prop where
 n:PySem.W.nsIn K mainGlobals x=some (some (.ref q))
 e:PySem.W.excIn K q veB "ValueError.__new__"=true
 g:PySem.W.findIn K (.ref q) "__getattribute__"=some (some (.builtin "BaseException.__getattribute__"))
 h:PySem.W.findIn K (.ref q) "__getattr__"=some none
 c:PySem.W.findIn K (.ref q) "__class__"=some (some (.builtin "object.__class__"))
 b:PySem.W.mroIn K q (.type "BaseException")=some true
 o:PySem.W.mroIn K q (.type "object")=some true
 i:PySem.W.isClsIn K q=true
 t:PySem.W.typeIn K (.ref q)=some (.type "type")
 u:PySem.W.mroIn K q (.ref T)=some true
 v:PySem.W.mroIn K q (.type "ValueError")=some true
 s:PySem.W.findIn K (.ref q) "__str__"=some (some (.builtin "BaseException.__str__"))
def bm3 (K:PySem.W.Frag)(T:Addr):List (Str×Addr)->Prop
 |[]=>True
 |(x,q)::l=>ClF K T x q/\bm3 K T l
def PrI (K:PySem.W.Frag)(i:Nat)(a:Addr):Nat->List (Str×Addr)->Prop
 |_,[]=>True
 |j,(_,b)::l=>PySem.W.mroIn K a (.ref b)=some (Nat.beq i j)/\PrI K i a (j+1) l
def bm4 (K:PySem.W.Frag)(all:List (Str×Addr)):Nat->List (Str×Addr)->Prop
 |_,[]=>True
 |i,(_,a)::l=>PrI K i a 0 all/\bm4 K all (i+1) l
theorem bm3.get {T:Addr}:∀{cs:List (Str×Addr)},bm3 K T cs->∀p∈cs,ClF K T p.1 p.2
 |(x,q)::l,h,p,hp=>by
  rcases ea8.mp hp with rfl|hp
  · exact h.1
  · exact bm3.get h.2 p hp
theorem PrI.get {i:Nat}{a:Addr}:∀{l:List (Str×Addr)} {j0:Nat},PrI K i a j0 l->∀j q,l[j]? =some q->PySem.W.mroIn K a (.ref q.2)=some (Nat.beq i (j0+j))
 |(x,b)::l,j0,h,0,q,e=>by
  cases e;exact h.1
 |(x,b)::l,j0,h,j+1,q,e=>by
  have:=PrI.get h.2 j q e;rw[this,show j0+1+j=j0+(j+1) by omega]
theorem bm4.get {all:List (Str×Addr)}:∀{l:List (Str×Addr)} {i0:Nat},bm4 K all i0 l->∀i p,l[i]? =some p->PrI K (i0+i) p.2 0 all
 |(x,b)::l,i0,h,0,p,e=>by
  cases e;exact h.1
 |(x,b)::l,i0,h,i+1,p,e=>by
  have:=bm4.get h.2 i p e;rw[show i0+1+i=i0+(i+1) by omega] at this;exact this
theorem cs0 {T:Addr}{cs:List (Str×Addr)}(X:K.In h)(G:h.Ns mainGlobals mg)(uT:PySem.W.nsIn K mainGlobals "TurnError"=some (some (.ref T)))(uTb:PySem.W.mroIn K T (.type "BaseException")=some true)(uTc:PySem.W.isClsIn K T=true)(uTt:PySem.W.typeIn K (.ref T)=some (.type "type"))
   (uG:PySem.W.specialIn K (.builtin "object.__class__") "__get__"=some (some (.builtin "getset_descriptor.__get__"))) (uK:PySem.W.takesIn K (.builtin "object.__class__")=some true) (uC:bm3 K T cs) (uP:bm4 K cs 0 cs) (nd:(cs.map (·.1)).Nodup):ax6 K mg T cs:=by
 refine ⟨PySem.W.mg_of X G uT,fun p hp=> ?_,fun p hp=> ?_,fun p hp=> ?_,fun p hp=> ?_,fun p hp q hq=> ?_⟩
 · exact ⟨PySem.W.mg_of X G (uC.get p hp).n,(uC.get p hp).e⟩
 · have c:=uC.get p hp;exact de5 c.g c.h c.c uG uK c.b c.o c.i
 · exact de4 uTb uTc uTt (uC.get p hp).u
 · exact dl8 (uC.get p hp).v
 · have c:=uC.get q hq;obtain ⟨i,hi⟩:=List.getElem?_of_mem hp;obtain ⟨j,hj⟩:=List.getElem?_of_mem hq
   have e:∀{k:Nat} {r:Str×Addr},cs[k]? =some r->PySem.W.mroIn K p.2 (.ref r.2)=some (Nat.beq i k):=fun {k r} hr=>by
     have:=(uP.get i p hi).get k r hr;rw[ek0,ek0] at this;exact this
   have eb:decide (p.1=q.1)=Nat.beq i j:=by
     by_cases z:i=j
     · subst z;rw[hi] at hj;cases hj;rw[decide_eq_true rfl,Nat.beq_refl]
     · have:Nat.beq i j=false:=by
         cases y:Nat.beq i j with
         |false=>rfl
         |true=>exact absurd (Nat.eq_of_beq_eq_true y) z
       rw[this]
       refine decide_eq_false fun y=>z ?_
       have i1:i < (cs.map (·.1)).length:=by rw[dz0];exact (dz2.mp hi).1
       refine (List.getElem?_inj i1 nd).mp ?_;rw[dz4,dz4,hi,hj];exact congrArg some y
   rw[eb]
   refine de3 c.i c.t (e hj) fun z=> ?_
   have a:=e hi;rw[z] at a;have b:=e hj;rw[z,a,Nat.beq_refl] at b;exact (Option.some.inj b).symm
end
end L2
namespace My
local macro_rules|`(tactic|omega)=>`(tactic|lia)
open PySem L2 Mth
def top (i:Nat):Stmt:=PySem.Challenge.pw_turnroots_k20_roots_by_numbers.main.body.getD i (.Pass ⟨0,0,0,0⟩)
abbrev as4:Stmt:=top 14
abbrev V5:Stmt:=top 15
abbrev X8:Stmt:=top 16
abbrev aa2:Stmt:=top 17
abbrev al8:Stmt:=top 18
abbrev ai2:Stmt:=top 19
abbrev V6:Stmt:=top 20
abbrev Y5:Stmt:=top 21
abbrev as5:Stmt:=top 22
abbrev aa3:Stmt:=top 23
abbrev ax9:Stmt:=top 26
abbrev ac5:Stmt:=top 27
abbrev as6:Stmt:=top 28
abbrev ai3:Stmt:=top 30
abbrev aa4:Stmt:=top 32
abbrev Y6:Stmt:=top 33
abbrev af1:Stmt:=top 34
abbrev Y7:Stmt:=top 35
abbrev al9:Stmt:=top 36
abbrev W3:Stmt:=top 37
abbrev ad4:Stmt:=top 38
abbrev ag0:Stmt:=top 39
abbrev S1:Stmt:=top 40
abbrev af2:Stmt:=top 42
abbrev as7:Stmt:=top 43
abbrev as8:Stmt:=top 44
abbrev as9:Stmt:=top 45
abbrev at1:Stmt:=top 46
abbrev bm5:Stmt:=top 47
abbrev ai4:Stmt:=top 48
abbrev am0:Stmt:=top 49
abbrev ai5:Stmt:=top 50
abbrev ai6:Stmt:=top 51
abbrev am1:Stmt:=top 52
abbrev ac6:Stmt:=top 53
abbrev am2:Stmt:=top 54
abbrev am3:Stmt:=top 55
abbrev at2:Stmt:=top 56
abbrev ay0:Stmt:=top 57
abbrev ai7:Stmt:=top 58
abbrev Y8:Stmt:=top 59
abbrev am4:Stmt:=top 60
abbrev ba9:Stmt:=top 61
end My
namespace My
local macro_rules|`(tactic|omega)=>`(tactic|lia)
open PySem L2 Mth
structure Bl (mg:Str->Option Value):Prop where
 len:mg "len"=none
 isi:mg "isinstance"=none
 int:mg "int"=none
 bool:mg "bool"=none
 list:mg "list"=none
 range:mg "range"=none
 sum:mg "sum"=none
 min:mg "min"=none
 max:mg "max"=none
 enum:mg "enumerate"=none
 zip:mg "zip"=none
 sorted:mg "sorted"=none
 tuple:mg "tuple"=none
 str:mg "str"=none
 repr:mg "repr"=none
 all:mg "all"=none
 any:mg "any"=none
 set:mg "set"=none
 dict:mg "dict"=none
 ve:mg "ValueError"=none
section
variable {P:Program} {w:World} {K:PySem.W.Frag} {mg:Str->Option Value} {base:Heap}
def ag6 (K:PySem.W.Frag):Sp:=fun vs H Q _=>∃x t b1 b2,vs=[x]/\Y0 K H x t/\PySem.W.kitOne K t (.type "int")=some b1/\PySem.W.kitOne K t (.type "bool")=some b2/\Q (.bl (b1&& !b2)) H
theorem df6:m9 ["thing"] ["thing"] (j7 as4):=⟨rfl,rfl,rfl,by decide+kernel,rfl,by decide+kernel,by decide+kernel⟩
theorem cy5 {f:Addr}{fd:FuncData}(F:C7 K "is_whole" "is_whole" as4 f fd)(B:Bl mg):n6 P w K mg base E9 1 f fd ["thing"] (ag6 K):=by
 refine F.ok df6 (fun vs H Q E h=> ?_) (fun cdv A outer s H vs Q E hr h=> ?_)
 · obtain ⟨x,t,b1,b2,rfl,_⟩:=h;rfl
 · obtain ⟨x,t,b1,b2,rfl,ty,e1,e2,q⟩:=h;refine ⟨_,g6 (l8 (bu3 (ao0 B.isi (c5 (pv 0) (c5 (bw4 B.int) c6))) (bu2 (di7 (ao0 B.isi (c5 (pv 0) (c5 (bp6 B.bool) c6))))))),?_⟩
   try dsimp only[x9,Cx.nox,Cx.wish]
   refine ⟨x,rfl,x,"int",t,b1,rfl,ty,e1,b1,rfl,?_⟩
   cases b1 with
   |true=>
    refine L9 ⟨x,rfl,x,"bool",t,b2,rfl,ty,e2,b2,rfl,?_⟩;exact q
   |false=>exact C0 q
def be2:Sp:=fun vs H Q _=>∃(a:Addr) (ns:List Int),vs=[.ref a]/\H a=some (.lst (ns.map V.int))/\∀(b:Bool) (H':Hp),e8 H H'->(b=true↔ns.length<=40/\y7 ns)->Q (.bl b) H'
theorem be3:m9 ["thing","seen","place"] ["thing"] (j7 ax9):=⟨rfl,rfl,rfl,by decide+kernel,rfl,by decide+kernel,by decide+kernel⟩
theorem cs1 {f:Addr}{fd:FuncData}(F:C7 K "is_turn" "is_turn" ax9 f fd)(B:Bl mg)(mt:∃t,mg "MOST_THINGS"=some (.int 40 t))(cW:n0 P w K mg base "is_whole" 1 ["thing"] (ag6 K)):n6 P w K mg base E9 2 f fd ["thing"] be2:=by
 refine F.ok be3 (fun vs H Q E h=> ?_) (fun cdv A outer s H vs Q E hr h=> ?_)
 · obtain ⟨a,ns,rfl,_⟩:=h;rfl
 · obtain ⟨a,ns,rfl,ha,k⟩:=h;obtain ⟨tk,mt⟩:=mt;have hu:=P9 hr
   refine ⟨_,c7 (B5 (Q4 (U9 (S6 (ao0 B.isi (c5 (pv 0) (c5 (bp7 B.list) c6))))) (Z8 (j8 aq0 (x6 B.len (c5 (pv 0) c6)) (O2 (v:= .int 40) (by rfl) mt ⟨tk,rfl⟩) (n5 _)))).pt (g6 (l8 Q3)) o4)
     (c7 (i4 (i:=1) be3.nd rfl (Or.inl rfl) Y3)
     (c7 (o6 PassesOwn.never rfl (G8 (pv 0)) (j6 (i:=2) be3.nd rfl (Or.inl rfl))
       (c7 (B5 (Q4 (U9 (S6 (i8 cW hr (c5 (pv 2) c6)))) (Q4 (j8 aj9 (pv 2) g9 (n5 _)) (Q4 (j8 bg5 (pv 2) (x6 B.len (c5 (pv 0) c6)) (n5 _)) (Z8 (bg3 (dk4 hu (pv 2) (pv 1))))))).pt (g6 (l8 Q3)) o4)
       (g6 (an6 hu (pv 1) (pv 2) Q3 rfl))))
     (g6 (l8 Q3)))),?_⟩
   try dsimp only[x9,Cx.nox,Cx.wish]
   refine ⟨_,rfl,_,"list",_,true,rfl,.lst ha,Y4 K "list",true,rfl,?_⟩;refine C0 ⟨_,rfl,a,_,rfl,.inl (h8.of ha),_,_,rfl,rfl,_,rfl,?_⟩;rw[dz0];refine aa0 (fun h40=> ?_) (fun h40=> ?_)
   · have h40:(40:Int) < (ns.length:Int):=of_decide_eq_true h40;exact k false H (e8.refl H) ⟨fun z=>(by cases z),fun z=>(by have:=z.1;omega)⟩
   · have h40:¬(40:Int) < (ns.length:Int):=fun z=>h40 (decide_eq_true z)
     intro d hd;have nad:a≠d:=g8 ha hd
     have ha1:(c9 H d (.dK [])) a=some (.lst (ns.map V.int)):=by rw[g7 nad];exact ha
     refine ⟨_,rfl,a,rfl,⟨_,h8.of ha1⟩,K1 (K:=K) (a:=a) (xs:=ns.map V.int) (fun i σ H2=>∃v:Option V,σ=[some (.ref a),some (.ref d),v]/\e8 H H2/\H2 d=some (.dK (M4 (ns.take i)))/\(ns.take i).Nodup/\∀x∈ns.take i,0<=x/\x < ns.length)
       ⟨none,rfl,e8.upd_new hd,c8,ef6,fun x hx=>by simp at hx⟩ (fun i σ H2 _ ⟨_,_,s2,_⟩=>h8.of (s2 a _ ha)) ?_ ?_⟩
     · rintro i y σ H2 hi ⟨v,rfl,s2,h2,nd,bd⟩;obtain ⟨z,hz,rfl⟩:=O0 hi;have ha2:=s2 a _ ha;have hil:i < ns.length:=(dz2.mp hz).1;refine ⟨_,rfl,.int z,_,true,false,rfl,.int z,Y4 K "int",V1 K,_,rfl,?_⟩;refine C0 ⟨_,rfl,_,_,rfl,rfl,_,rfl,?_⟩;refine aa0 (fun hz0=> ?_) (fun hz0=> ?_)
       · have hz0:z < 0:=of_decide_eq_true hz0;exact L9 (k false H2 s2 ⟨fun q=>(by cases q),fun q=>(by have:=q.2.lo z (dz8 hz);omega)⟩)
       have hz0:¬z < 0:=fun q=>hz0 (decide_eq_true q)
       refine ⟨_,rfl,_,rfl,a,_,rfl,.inl (h8.of ha2),_,_,rfl,rfl,_,rfl,?_⟩;rw[dz0];refine aa0 (fun hz1=> ?_) (fun hz1=> ?_)
       · have hz1:(ns.length:Int)<=z:=of_decide_eq_true hz1;exact L9 (k false H2 s2 ⟨fun q=>(by cases q),fun q=>(by have:=q.2.hi z (dz8 hz);omega)⟩)
       have hz1:¬(ns.length:Int)<=z:=fun q=>hz1 (decide_eq_true q)
       refine ⟨_,rfl,_,rfl,d,_,rfl,W9.k (k:=Sum.inl z) h2,_,rfl,?_⟩
       by_cases hm:z∈ns.take i
       · rw[ar1 hm];refine L9 (k false H2 s2 ⟨fun q=>(by cases q),fun q=> ?_⟩);exfalso;obtain ⟨j,hj⟩:=ec1.mp hm
         have hjl:j < i:=by
           have:=(dz2.mp hj).1;rw[eb2] at this;omega
         rw[ef8 hjl] at hj;have e1:=(dz2.mp hj).2;have e2:=(dz2.mp hz).2;exact eb7.mp (ea7.mp q.2.nd) j i (by omega) hil hjl (by rw[e1,e2])
       · rw[ah3 hm];refine C0 ⟨_,rfl,_,rfl,d,_,rfl,aq7.k (k:=Sum.inl z) h2 (x8 (by unfold M4;rw[dz0,eb2];omega)),?_⟩
         have hds:∀b o,H b=some o->b≠d:=fun b o e=>g8 e hd
         refine ⟨some (.int z),rfl,fun b o e=>by rw[g7 (hds b o e)];exact s2 b o e,?_,?_,?_⟩
         · rw[aw6 hm,c8,l6 hz]
         · rw[l6 hz];exact an7 nd hm
         · intro x hx;rw[l6 hz] at hx
           rcases ea3.mp hx with q|q
           · exact bd x q
           · have:x=z:=by simpa using q
             omega
     · rintro σ H2 ⟨v,rfl,s2,h2,nd,bd⟩;rw[dz0,ec4] at nd bd;refine k true H2 s2 ⟨fun _=>⟨by omega,⟨nd,fun x hx=>(bd x hx).1,fun x hx=>(bd x hx).2⟩⟩,fun _=>rfl⟩
end
end My
namespace My
local macro_rules|`(tactic|omega)=>`(tactic|lia)
open PySem L2 Mth
section
variable {P:Program} {w:World} {K:PySem.W.Frag} {mg:Str->Option Value} {base:Heap}
def C3 (H:Hp)(a:Addr)(p:List Int):Prop:=H a=some (.lst (p.map V.int))/\y7 p/\p.length<=40
end
end My
namespace My
local macro_rules|`(tactic|omega)=>`(tactic|lia)
open PySem L2 Mth
section
variable {P:Program} {w:World} {K:PySem.W.Frag} {mg:Str->Option Value} {base:Heap}
def ay1:Sp:=fun vs H Q _=>∃(a:Addr) (ns:List Int),vs=[.ref a]/\C3 H a ns/\∀(H':Hp),e8 H H'->Q .non H'
theorem dn0:m9 ["thing"] ["thing"] (j7 ac5):=⟨rfl,rfl,rfl,by decide+kernel,rfl,by decide+kernel,by decide+kernel⟩
theorem df7 {f:Addr}{fd:FuncData}(F:C7 K "must_be_turn" "must_be_turn" ac5 f fd)(cT:n0 P w K mg base "is_turn" 2 ["thing"] be2):n6 P w K mg base E9 3 f fd ["thing"] ay1:=by
 refine F.ok dn0 (fun vs H Q E h=> ?_) (fun cdv A outer s H vs Q E hr h=> ?_)
 · obtain ⟨a,ns,rfl,_⟩:=h;rfl
 · obtain ⟨a,ns,rfl,⟨ha,ht,hl⟩,k⟩:=h;refine ⟨_,g6 (B5 (U9 (S6 (i8 cT hr (c5 (pv 0) c6)))) (g6 ab1) o4),?_⟩
   try dsimp only[x9,Cx.nox,Cx.wish]
   refine ⟨_,rfl,a,ns,rfl,ha,fun b H' s' hb=>⟨b,rfl,?_⟩⟩;have:b=true:=hb.mpr ⟨hl,ht⟩;subst this;exact C0 (k H' s')
end
end My
namespace My
local macro_rules|`(tactic|omega)=>`(tactic|lia)
open PySem L2 Mth
def bt6 (H:Hp)(l:Addr):Nat:=match H l with
 |some (.lst xs)=>xs.length
 |_=>0
theorem at3 {H:Hp}{l:Addr}{xs:List V}(h:H l=some (.lst xs)):bt6 H l=xs.length:=by unfold bt6;rw[h]
end My
namespace My
local macro_rules|`(tactic|omega)=>`(tactic|lia)
open PySem L2 Mth
section
variable {P:Program} {w:World} {K:PySem.W.Frag} {mg:Str->Option Value} {base:Heap}
def Z5:Sp:=fun vs H Q _=>∃(a:Addr) (p:List Int),vs=[.ref a]/\C3 H a p/\
 ∀(l:Addr) (as:List Addr) (rs:List (List Int)) (H':Hp),H l=none->e8 H H'->H' l=some (.lst (as.map V.ref))->o3 H' as rs->I0 p p.length rs->(∀b∈as,H b=none)->as.Nodup->l∉as->Q (.ref l) H'
theorem R9 {H:Hp}{as:List Addr}{rs:List (List Int)}{e:Addr}{r:List Int}(h:o3 H as rs)(he:H e=some (.lst (r.map V.int))):o3 H (as++[e]) (rs++[r]):=by
 refine ⟨by rw[dz9,dz9,h.1];rfl,fun j b q h1 h2=> ?_⟩
 by_cases hj:j < as.length
 · rw[eb6 hj] at h1;rw[eb6 (by rw[<-h.1];exact hj)] at h2;exact h.2 j b q h1 h2
 · rw[eb9 (by omega)] at h1;rw[eb9 (by rw[<-h.1];omega),<-h.1] at h2
   have hj0:j - as.length=0:=by
     have:=(dz2.mp h1).1
     simpa using this
   rw[hj0] at h1 h2;cases h1;cases h2;exact he
theorem B6 {H H':Hp}{as:List Addr}{rs:List (List Int)}(h:o3 H as rs)(k:∀b∈as,∀o,H b=some o->H' b=some o):o3 H' as rs:=
 ⟨h.1,fun j a r h1 h2=>k a (dz8 h1) _ (h.2 j a r h1 h2)⟩
theorem Y9 {H:Hp}{as:List Addr}{rs:List (List Int)}(h:o3 H as rs){b:Addr}(hb:b∈as):∃r:List Int,H b=some (.lst (r.map V.int)):=by
 obtain ⟨j,hj⟩:=ec1.mp hb;have hjl:=(dz2.mp hj).1;exact ⟨_,h.2 j b (rs[j]'(by rw[<-h.1];exact hjl)) hj (dz1 _)⟩
theorem aa5 {p:List Int}{i:Nat}{rs:List (List Int)}(tp:y7 p)(h:I0 p i rs):rs.flatten.length<=p.length:=by
 refine aw9 h.nd fun x hx=> ?_
 obtain ⟨r,hr,hxr⟩:=ec9.mp hx;obtain ⟨y,L,a,b,rfl,_⟩:=h.ring r hr;exact ab8 tp a x hxr
theorem ac7 {p:List Int}{i:Nat}{rs:List (List Int)}(h:I0 p i rs):rs.length<=rs.flatten.length:=by
 have:∀l:List (List Int),(∀r∈l,1<=r.length)->l.length<=l.flatten.length:=by
   intro l
   induction l with
   |nil=>intro _;exact dz3 _
   |cons a r ih=>
    intro h;have h1:=h a dz7
    have h2:=ih fun x hx=>h x (ea0 _ hx)
    rw[ee1,dz9,ee9];omega
 refine this rs fun r hr=> ?_
 obtain ⟨y,L,a,b,rfl,_⟩:=h.ring r hr;rw[o7];exact b.pos
end
end My
namespace My
local macro_rules|`(tactic|omega)=>`(tactic|lia)
open PySem L2 Mth
section
variable {P:Program} {w:World} {K:PySem.W.Frag} {mg:Str->Option Value} {base:Heap}
def by7:Sp:=fun vs H Q _=>∃(a:Addr) (p:List Int) (x:Int),vs=[.ref a,.int x]/\C3 H a p/\In p x/\
 ∀(l:Addr) (L:Nat) (H':Hp),H l=none->e8 H H'->K7 p x L->L<=40->H' l=some (.lst ((j9 p x L).map V.int))->Q (.ref l) H'
theorem bi6:m9 ["p","first","ring","thing"] ["p","first"] (j7 al8):=⟨rfl,rfl,rfl,by decide+kernel,rfl,by decide+kernel,by decide+kernel⟩
theorem df8 {f:Addr}{fd:FuncData}(F:C7 K "walk_ring" "walk_ring" al8 f fd):n6 P w K mg base E9 1 f fd ["p","first"] by7:=by
 refine F.ok bi6 (fun vs H Q E h=> ?_) (fun cdv A outer s H vs Q E hr h=> ?_)
 · obtain ⟨a,p,x,rfl,_⟩:=h;rfl
 · obtain ⟨a,p,x,rfl,⟨ha,tp,lp⟩,hx,q⟩:=h
   refine ⟨_,c7 (i4 (i:=2) bi6.nd rfl (Or.inl rfl) (o8 (c5 (pv 1) c6)))
     (c7 (i4 (i:=3) bi6.nd rfl (Or.inl rfl) (J9 C5 (pv 0) (pv 1) (fun _ _=>rfl)))
     (c7 (ab2 PassesOwn.never (j8 ap9 (pv 3) (pv 1) (n5 _)) (c7 (y6 (E4 (pv 2) (c5 (pv 3) c6))) (g6 (i4 (i:=3) bi6.nd rfl (Or.inl rfl) (J9 C5 (pv 0) (pv 3) (fun _ _=>rfl))))))
     (g6 (l8 (pv 2))))),?_⟩
   try dsimp only[x9,Cx.nox,Cx.wish]
   refine ⟨_,rfl,(by show 1<=sizeLine;decide),fun l hl=> ?_⟩;have nal:a≠l:=g8 ha hl
   have hal:(c9 H l (.lst [.int x])) a=some (.lst (p.map V.int)):=by rw[g7 nal];exact ha
   refine ⟨_,rfl,_,rfl,a,_,_,_,rfl,rfl,h8.of hal,W0 hx.1 hx.2,?_⟩
   refine bd3 (fun σ H2=>∃m:Nat,σ=[some (.ref a),some (.int x),some (.ref l),some (.int (it p m x))]/\1<=m/\H2 l=some (.lst ((j9 p x m).map V.int))/\e8 H H2/\∀i,0 < i->i < m->it p i x≠x) (fun _ H2=>p.length+1 - bt6 H2 l)
     ⟨1,rfl,dz3 _,c8,e8.upd_new hl,fun i i0 i1=>by omega⟩ ?_ ?_
   · rintro σ H2 ⟨m,rfl,m1,h2l,s2,hne⟩;have ha2:=s2 a _ ha;refine ⟨_,rfl,_,rfl,rfl,_,rfl,?_⟩
     by_cases hb:it p m x=x
     · refine ba2 (congrArg V.int hb) ?_;exact ⟨_,rfl,q l m H2 hl s2 ⟨by omega,hb,hne⟩ (by have:=N9 tp hx hne;omega) h2l⟩
     · have hb':¬V.int (it p m x)=V.int x:=fun z=>hb (V.int.inj z)
       rw[decide_eq_false hb'];refine L9 ?_
       have hne':∀i,0 < i->i < m+1->it p i x≠x:=fun i i0 i1=>by
         by_cases e:i=m
         · rw[e];exact hb
         · exact hne i i0 (by omega)
       have hbd:=N9 tp hx hne';refine ⟨_,rfl,.inl ⟨rfl,_,h8.of h2l⟩,_,rfl,l,_,_,rfl,rfl,h2l,x8 (by rw[dz0,o7];omega),?_⟩;have hi:=P0 tp hx m;refine ⟨_,rfl,_,rfl,a,_,_,_,rfl,rfl,h8.of (by rw[g7 nal];exact ha2),W0 hi.1 hi.2,?_⟩
       have h3l:(c9 H2 l (.lst ((j9 p x m).map V.int++[.int (it p m x)]))) l=some (.lst ((j9 p x (m+1)).map V.int)):=by
         rw[c8,ar2,dz6];rfl
       refine ⟨⟨m+1,rfl,by omega,h3l,fun b o hb=>by rw[g7 (g8 hb hl)];exact s2 b o hb,hne'⟩,?_⟩;rw[at3 h3l,at3 h2l,dz0,dz0,o7,o7];omega
   · rintro σ H2 Q Q' hq ⟨v,hv,u,hu,e1,k1,e2,e3⟩;exact ⟨v,hv,u,hu,e1,k1,e2,hq _ _ e3⟩
theorem ag7:m9 ["p","rings","seen","first","ring","thing"] ["p"] (j7 ai2):=⟨rfl,rfl,rfl,by decide+kernel,rfl,by decide+kernel,by decide+kernel⟩
theorem cy6 {f:Addr}{fd:FuncData}(F:C7 K "walk_rings" "walk_rings" ai2 f fd)(B:Bl mg)(cR:n0 P w K mg base "walk_ring" 1 ["p","first"] by7):n6 P w K mg base E9 2 f fd ["p"] Z5:=by
 refine F.ok ag7 (fun vs H Q E h=> ?_) (fun cdv A outer s H vs Q E hr h=> ?_)
 · obtain ⟨a,p,rfl,_⟩:=h;rfl
 · obtain ⟨a,p,rfl,⟨ha,tp,lp⟩,q⟩:=h;have hu:=P9 hr
   refine ⟨_,c7 (i4 (i:=1) ag7.nd rfl (Or.inl rfl) (o8 c6)) (c7 (i4 (i:=2) ag7.nd rfl (Or.inl rfl) Y3)
     (c7 (o6 PassesOwn.never rfl (K3 (by rfl) B.range (c5 (x6 B.len (c5 (pv 0) c6)) c6)) (j6 (i:=3) ag7.nd rfl (Or.inl rfl))
       (g6 (B5 (bg3 (aw2 hu (pv 3) (pv 2))) (c7 (i4 (i:=4) ag7.nd rfl (Or.inl rfl) (i8 cR hr (c5 (pv 0) (c5 (pv 3) c6)))) (c7 (y6 (E4 (pv 1) (c5 (pv 4) c6)))
         (g6 (o6 PassesOwn.never rfl (G8 (pv 4)) (j6 (i:=5) ag7.nd rfl (Or.inl rfl)) (g6 (an6 hu (pv 2) (pv 5) Q3 rfl)))))) o4)))
     (g6 (l8 (pv 1))))),?_⟩
   try dsimp only[x9,Cx.nox,Cx.wish]
   refine ⟨eb4 _,fun l hl=> ?_⟩;intro d hd
   have hdl:d≠l:=fun z=>by rw[z,c8] at hd;cases hd
   have hd0:H d=none:=by rw[g7 hdl] at hd;exact hd
   have s0:e8 H (c9 (c9 H l (.lst [])) d (.dK [])):=(e8.upd_new hl).upd_r hd0
   have h0l:(c9 (c9 H l (.lst [])) d (.dK [])) l=some (.lst []):=by rw[g7 hdl.symm,c8]
   refine ⟨_,rfl,a,_,rfl,.inl (h8.of (s0 a _ ha)),(p.length:Int),?_,by omega,by omega,?_⟩
   · rw[dz0]
   rw[show ((p.length:Int)).toNat=p.length by omega]
   refine E3 (lo:=0) (n:=p.length) (fun i σ H2=>∃(as:List Addr) (rs:List (List Int)) (v3 v4 v5:Option V),σ=[some (.ref a),some (.ref l),some (.ref d),v3,v4,v5]/\H2 l=some (.lst (as.map V.ref))/\H2 d=some (.dK (M4 rs.flatten))/\o3 H2 as rs/\I0 p i rs/\e8 H H2/\(∀b∈as,H b=none)/\as.Nodup/\l∉as)
     ⟨[],[],none,none,none,rfl,h0l,c8,⟨rfl,fun j b r h=>by simp at h⟩,ar3 p,s0,fun b hb=>by simp at hb,ef6,by simp⟩ ?_ ?_
   · rintro i σ H2 hi ⟨as,rs,v3,v4,v5,rfl,h2l,h2d,rows,up,s2,fa,nda,nla⟩;have hx:In p (i:Int):=⟨by omega,by omega⟩
     have e0:(0:Int)+(i:Int)=(i:Int):=by omega
     rw[e0];refine ⟨_,rfl,_,rfl,d,_,rfl,W9.k (k:=Sum.inl (i:Int)) h2d,_,rfl,?_⟩
     by_cases hm:(i:Int)∈rs.flatten
     · rw[ar1 hm];refine C0 ?_;exact ⟨as,rs,_,_,_,rfl,h2l,h2d,rows,ar4 up hm,s2,fa,nda,nla⟩
     · rw[ah3 hm];refine L9 ?_;refine ⟨_,rfl,_,rfl,a,p,_,rfl,⟨s2 a _ ha,tp,lp⟩,hx,fun e L H3 he s23 pr hL h3e=> ?_⟩;have h3l:=s23 l _ h2l;have h3d:=s23 d _ h2d;have nle:l≠e:=g8 h2l he;have nde:d≠e:=g8 h2d he;have fl:=aa5 tp up;have cl:=ac7 up;have lenas:=rows.1;refine ⟨_,rfl,.inl ⟨rfl,_,h8.of h3l⟩,_,rfl,l,_,_,rfl,rfl,h3l,x8 (by rw[dz0,lenas];omega),?_⟩
       have es:as.map V.ref++[V.ref e]=(as++[e]).map V.ref:=by rw[dz6];rfl
       rw[es];have h4l:(c9 H3 l (.lst ((as++[e]).map V.ref))) l=some (.lst ((as++[e]).map V.ref)):=c8
       have h4d:(c9 H3 l (.lst ((as++[e]).map V.ref))) d=some (.dK (M4 rs.flatten)):=by rw[g7 hdl];exact h3d
       have h4e:(c9 H3 l (.lst ((as++[e]).map V.ref))) e=some (.lst ((j9 p i L).map V.int)):=by rw[g7 nle.symm];exact h3e
       have k4:∀b o,H2 b=some o->b≠l->(c9 H3 l (.lst ((as++[e]).map V.ref))) b=some o:=fun b o hb hn=>by rw[g7 hn];exact s23 b o hb
       generalize (c9 H3 l (.lst ((as++[e]).map V.ref)))=H4 at h4l h4d h4e k4 ⊢;have fr:=al5 up pr hm
       have ndr:=X4 tp hx fun j j0 j1=>pr.least j j0 j1
       refine ⟨_,rfl,e,rfl,⟨_,h8.of h4e⟩,K1 (K:=K) (a:=e) (xs:=(j9 p i L).map V.int) (fun j σ H5=>∃v5':Option V,σ=[some (.ref a),some (.ref l),some (.ref d),some (.int (i:Int)),some (.ref e),v5']/\H5 d=some (.dK (M4 (rs.flatten++(j9 p i L).take j)))/\j5 d H4 H5)
         ⟨v5,rfl,by rw[el4,eb8];exact h4d,j5.refl d H4⟩ (fun j σ H5 _ ⟨_,_,_,k⟩=>h8.of (k e _ h4e nde.symm)) ?_ ?_⟩
       · rintro j y σ H5 hj ⟨v5',rfl,h5d,kb⟩;obtain ⟨z,hz,rfl⟩:=O0 hj;have hjl:j < (j9 p i L).length:=(dz2.mp hz).1;rw[o7] at hjl
         have hzn:z∉rs.flatten++(j9 p i L).take j:=by
           intro hm'
           rcases ea3.mp hm' with g|g
           · exact fr z (dz8 hz) g
           · obtain ⟨jj,hjj⟩:=ec1.mp g
             have hjk:jj < j:=by
               have:=(dz2.mp hjj).1;rw[eb2] at this;omega
             rw[ef8 hjk] at hjj;have e1:=(dz2.mp hjj).2;have e2:=(dz2.mp hz).2;exact eb7.mp (ea7.mp ndr) jj j (by rw[o7];omega) (by rw[o7];omega) hjk (by rw[e1,e2])
         refine ⟨_,rfl,_,rfl,d,_,rfl,aq7.k (k:=Sum.inl z) h5d (x8 (by unfold M4;rw[dz0,dz9,eb2,o7];omega)),?_⟩;refine ⟨_,rfl,?_,kb.upd_a⟩;rw[aw6 hzn,c8,l6 hz,eb3]
       · rintro σ H5 ⟨v5',rfl,h5d,kb⟩;rw[dz0,ec4] at h5d
         have nad:∀b∈as,b≠d/\b≠l:=fun b hb=>by
           obtain ⟨r,hr'⟩:=Y9 rows hb;exact ⟨ci3 hr' h2d (by intro z;cases z),fun z=>nla (z▸hb)⟩
         refine ⟨as++[e],rs++[j9 p i L],_,_,_,rfl,kb l _ h4l hdl.symm,?_,?_,ar5 tp up hx pr hm,?_,?_,?_,?_⟩
         · rw[h5d,eg6,eh1]
         · exact R9 (B6 rows fun b hb o ho=>kb b o (k4 b o ho (nad b hb).2) (nad b hb).1) (kb e _ h4e nde.symm)
         · exact fun b o hb=>kb b o (k4 b o (s2 b o hb) (g8 hb hl)) (g8 hb hd0)
         · intro b hb
           rcases ea3.mp hb with g|g
           · exact fa b g
           · have:b=e:=by simpa using g
             rw[this];exact s2.free he
         · refine an7 nda fun g=> ?_
           obtain ⟨r,hr'⟩:=Y9 rows g;rw[he] at hr';cases hr'
         · intro g
           rcases ea3.mp g with g|g
           · exact nla g
           · exact nle (by simpa using g)
   · rintro σ H2 ⟨as,rs,v3,v4,v5,rfl,h2l,h2d,rows,up,s2,fa,nda,nla⟩;exact ⟨_,rfl,q l as rs H2 hl s2 h2l rows up fa nda nla⟩
end
end My
namespace My
local macro_rules|`(tactic|omega)=>`(tactic|lia)
open PySem L2 Mth
section
variable {P:Program} {w:World} {K:PySem.W.Frag} {mg:Str->Option Value} {base:Heap}
def bi7:Sp:=fun vs H Q _=>∃(t r:Addr) (ts rs:List Int) (k:Int),vs=[.ref t,.ref r,.int k]/\H t=some (.lst (ts.map V.int))/\H r=some (.lst (rs.map V.int))/\t≠r/\rs.Nodup/\(∀x∈rs,0<=x/\x < ts.length)/\
 ∀(ts':List Int) (H':Hp),ts'.length=ts.length->(∀j,j < rs.length->G1 ts' (rs.getD j 0)=some (rs.getD (((j:Int)+k)%(rs.length:Int)).toNat 0))->(∀u,0<=u->u∉rs->G1 ts' u=G1 ts u)->H' t=some (.lst (ts'.map V.int))->j5 t H H'->Q .non H'
theorem by8:m9 ["target","ring","steps","place","thing"] ["target","ring","steps"] (j7 V6):=⟨rfl,rfl,rfl,by decide+kernel,rfl,by decide+kernel,by decide+kernel⟩
theorem df9 {f:Addr}{fd:FuncData}(F:C7 K "send_along" "send_along" V6 f fd)(B:Bl mg):n6 P w K mg base E9 1 f fd ["target","ring","steps"] bi7:=by
 refine F.ok by8 (fun vs H Q E h=> ?_) (fun cdv A outer s H vs Q E hr h=> ?_)
 · obtain ⟨t,r,ts,rs,k,rfl,_⟩:=h;rfl
 · obtain ⟨t,r,ts,rs,k,rfl,ht,hrr,ntr,nd,bd,q⟩:=h
   refine ⟨_,g6 (o6 PassesOwn.never rfl (ao1 B.enum (c5 (pv 1) c6)) (X2 rfl (C4 (j6 (i:=3) by8.nd rfl (Or.inl rfl)) (C4 (j6 (i:=4) by8.nd rfl (Or.inl rfl)) S9)))
     (g6 (an1 (J9 C5 (pv 1) (i7 C6 (i7 E7 (pv 3) (pv 2)) (x6 B.len (c5 (pv 1) c6))) (fun _ _=>rfl)) (av8 (pv 0) (pv 4) ah0)))),?_⟩
   try dsimp only[x9,Cx.nox,Cx.wish]
   refine ⟨_,rfl,r,rfl,⟨_,h8.of hrr⟩,ah5 (K:=K) (a:=r) (xs:=rs.map V.int) (fun i σ H2=>∃(ts':List Int) (v3 v4:Option V),σ=[some (.ref t),some (.ref r),some (.int k),v3,v4]/\H2 t=some (.lst (ts'.map V.int))/\ts'.length=ts.length/\(∀j,j < i->G1 ts' (rs.getD j 0)=some (rs.getD (((j:Int)+k)%(rs.length:Int)).toNat 0))/\(∀u,0<=u->u∉rs->G1 ts' u=G1 ts u)/\j5 t H H2)
     ⟨ts,none,none,rfl,ht,rfl,fun j hj=>by omega,fun u _ _=>rfl,j5.refl t H⟩ (fun i σ H2 _ ⟨_,_,_,_,_,_,_,_,k⟩=>h8.of (k r _ hrr ntr.symm)) ?_ ?_⟩
   · rintro i y σ H2 tt hi ⟨ts',v3,v4,rfl,h2t,hl,hj,hu,kb⟩ htt;obtain ⟨z,hz,rfl⟩:=O0 hi;have hil:i < rs.length:=(dz2.mp hz).1;have h2r:=kb r _ hrr ntr.symm;have nt:t≠tt:=g8 h2t htt;have nr:r≠tt:=g8 h2r htt
     have h3r:(c9 H2 tt (.tup [.int (i:Int),.int z])) r=some (.lst (rs.map V.int)):=by rw[g7 nr];exact h2r
     have h3t:(c9 H2 tt (.tup [.int (i:Int),.int z])) t=some (.lst (ts'.map V.int)):=by rw[g7 nt];exact h2t
     have L0:(0:Int) < (rs.length:Int):=by omega
     have m0:=ee6 ((i:Int)+k) (show (rs.length:Int)≠0 by omega);have m1:=eh0 ((i:Int)+k) L0;refine ⟨tt,_,rfl,O3.of c8,rfl,_,_,rfl,_,_,rfl,rfl,?_⟩;refine ⟨_,rfl,_,rfl,_,rfl,_,_,rfl,rfl,_,rfl,r,_,rfl,.inl (h8.of h3r),?_⟩;rw[dz0];refine ⟨_,_,rfl,rfl,L0,r,_,_,_,rfl,rfl,h8.of h3r,W0 m0 m1,?_⟩;obtain ⟨z0,z1⟩:=bd z (dz8 hz);refine ⟨_,rfl,_,rfl,t,_,_,z.toNat,rfl,rfl,h3t,?_,?_⟩
     · unfold ixN;rw[dz0,if_pos z0,if_pos (by omega)]
     have es:(ts'.map V.int).set z.toNat (.int (rs.getD (((i:Int)+k)%(rs.length:Int)).toNat 0))=(ts'.set z.toNat (rs.getD (((i:Int)+k)%(rs.length:Int)).toNat 0)).map V.int:=by rw[eq6]
     rw[es]
     have hzi:rs.getD i 0=z:=by rw[L8 hil];exact (dz2.mp hz).2
     refine ⟨_,_,_,rfl,c8,by rw[el9];exact hl,fun j hji=> ?_,fun u u0 un=> ?_,fun b o hb hn=> ?_⟩
     · by_cases e:j=i
       · subst e;rw[hzi,ah4 (by omega)]
       · have hjl:j < rs.length:=by omega
         have:rs.getD j 0≠z:=by rw[<-hzi];exact S0 nd hjl hil e
         rw[ae0 (bd _ (by rw[L8 hjl];exact ec6 hjl)).1 z0 this];exact hj j (by omega)
     · rw[ae0 u0 z0 (fun e=>un (e▸dz8 hz))];exact hu u u0 un
     · have:=kb b o hb hn;rw[g7 hn,g7 (g8 this htt)];exact this
   · rintro σ H2 ⟨ts',v3,v4,rfl,h2t,hl,hj,hu,kb⟩;rw[dz0] at hj;exact q ts' H2 hl hj hu h2t kb
end
end My
namespace My
local macro_rules|`(tactic|omega)=>`(tactic|lia)
open PySem L2 Mth
section
variable {P:Program} {w:World} {K:PySem.W.Frag} {mg:Str->Option Value} {base:Heap}
def bb0:Sp:=fun vs H Q _=>∃(a:Addr) (p:List Int) (k:Int),vs=[.ref a,.int k]/\C3 H a p/\∀(l:Addr) (t:List Int) (H':Hp),H l=none->e8 H H'->D0 p k t->H' l=some (.lst (t.map V.int))->Q (.ref l) H'
end
end My
namespace My
local macro_rules|`(tactic|omega)=>`(tactic|lia)
open PySem L2 Mth
section
variable {P:Program} {w:World} {K:PySem.W.Frag} {mg:Str->Option Value} {base:Heap}
def bt7 (K:PySem.W.Frag):Sp:=fun vs H Q _=>∃(a b:Addr) (xs ys:List V),vs=[.ref a,.ref b]/\h8 K H a xs/\h8 K H b ys/\xs.length=ys.length/\Q .non H
theorem dr9:m9 ["p","q"] ["p","q"] (j7 as6):=⟨rfl,rfl,rfl,by decide+kernel,rfl,by decide+kernel,by decide+kernel⟩
theorem dn1 {f:Addr}{fd:FuncData}(F:C7 K "must_fit" "must_fit" as6 f fd)(B:Bl mg):n6 P w K mg base E9 1 f fd ["p","q"] (bt7 K):=by
 refine F.ok dr9 (fun vs H Q E h=> ?_) (fun cdv A outer s H vs Q E hr h=> ?_)
 · obtain ⟨a,b,xs,ys,rfl,_⟩:=h;rfl
 · obtain ⟨a,b,xs,ys,rfl,ha,hb,hl,k⟩:=h;refine ⟨_,g6 (B5 (j8 ap9 (x6 B.len (c5 (pv 0) c6)) (x6 B.len (c5 (pv 1) c6)) (n5 _)) (g6 ab1) o4),?_⟩
   try dsimp only[x9,Cx.nox,Cx.wish]
   refine ⟨_,rfl,a,xs,rfl,.inl ha,_,rfl,b,ys,rfl,.inl hb,rfl,_,rfl,?_⟩;refine ba2 (by rw[hl]) k
end
end My
namespace My
local macro_rules|`(tactic|omega)=>`(tactic|lia)
open PySem L2 Mth
section
variable {P:Program} {w:World} {K:PySem.W.Frag} {mg:Str->Option Value} {base:Heap}
def ck6:Sp:=fun vs H Q _=>∃(x y:Nat),vs=[.int (x:Int),.int (y:Int)]/\Q (.int (ec8 x y:Nat)) H
theorem bt8:m9 ["a","b","rest"] ["a","b"] (j7 aa2):=⟨rfl,rfl,rfl,by decide+kernel,rfl,by decide+kernel,by decide+kernel⟩
def cy7 (σ:St):Nat:=match σ[1]? with
 |some (some (V.int i))=>i.toNat
 |_=>0
theorem dn2 {f:Addr}{fd:FuncData}(F:C7 K "greatest_part" "greatest_part" aa2 f fd):n6 P w K mg base E9 1 f fd ["a","b"] ck6:=by
 refine F.ok bt8 (fun vs H Q E h=> ?_) (fun cdv A outer s H vs Q E hr h=> ?_)
 · obtain ⟨x,y,rfl,_⟩:=h;rfl
 · obtain ⟨x,y,rfl,q⟩:=h
   refine ⟨_,c7 (ab2 PassesOwn.never (j8 ap9 (pv 1) g9 (n5 _))
       (c7 (i4 (i:=2) bt8.nd rfl (Or.inl rfl) (i7 C6 (pv 0) (pv 1))) (c7 (i4 (i:=0) bt8.nd rfl (Or.inl rfl) (pv 1)) (g6 (i4 (i:=1) bt8.nd rfl (Or.inl rfl) (pv 2))))))
     (g6 (l8 (pv 0))),?_⟩
   try dsimp only[x9,Cx.nox,Cx.wish]
   refine bd3 (fun σ H2=>∃(a b:Nat) (v:Option V),σ=[some (.int (a:Int)),some (.int (b:Int)),v]/\ec8 a b=ec8 x y/\H2=H) (fun σ _=>cy7 σ) ⟨x,y,none,rfl,rfl,rfl⟩ ?_ ?_
   · rintro σ H2 ⟨a,b,v,rfl,hg,rfl⟩;refine ⟨_,rfl,rfl,_,rfl,?_⟩
     by_cases hb:b=0
     · subst hb;refine ba2 (by rfl) ?_;refine ⟨_,rfl,?_⟩;rw[Nat.gcd_zero_right] at hg;rw[hg];exact q
     · have hb':¬V.int (b:Int)=V.int 0:=fun z=>hb (by have:=V.int.inj z;omega)
       rw[decide_eq_false hb'];refine L9 ?_;refine ⟨_,rfl,_,rfl,_,_,rfl,rfl,(by show (0:Int) < (b:Int);omega),_,rfl,_,rfl,⟨b,a%b,some (.int ((a:Int)%(b:Int))),?_,?_,rfl⟩,?_⟩
       · rw[ei9];rfl
       · rw[<-hg,eu8 a b,Nat.gcd_rec b a,eu8]
       · show ((a:Int)%(b:Int)).toNat < ((b:Int)).toNat;have:=eh0 (a:Int) (show (0:Int) < (b:Int) by omega);have:=ee6 (a:Int) (show (b:Int)≠0 by omega);omega
   · rintro σ H2 Q Q' hq ⟨v,hv,e1,k1,e2,e3⟩;exact ⟨v,hv,e1,k1,e2,hq _ _ e3⟩
end
end My
namespace My
local macro_rules|`(tactic|omega)=>`(tactic|lia)
open PySem L2 Mth
section
variable {P:Program} {w:World} {K:PySem.W.Frag} {mg:Str->Option Value} {base:Heap}
theorem cy8 {T J F:List Int}{t:Nat}{u f:Int}(hT:y7 T)(hl:J.length=T.length)(hu:T[t]? =some u)(hf:F[t]? =some f)(h:(T.take t).map (G1 J)=(F.take t).map some):(T.take (t+1)).map (G1 (J.set u.toNat f))=(F.take (t+1)).map some:=by
 have ht:t < T.length:=(dz2.mp hu).1;have hum:=dz8 hu;have u0:=hT.lo u hum;have u1:=hT.hi u hum;rw[l6 hu,l6 hf,dz6,dz6]
 congr 1
 · rw[<-h]
   refine ef3 fun v hv=>ae0 (hT.lo v (ef0 hv)) u0 fun e=> ?_
   obtain ⟨j,hj⟩:=ec1.mp hv
   have hjt:j < t:=by
     have:=(dz2.mp hj).1;rw[eb2] at this;omega
   rw[ef8 hjt] at hj;have e1:=(dz2.mp hj).2;have e2:=(dz2.mp hu).2;exact eb7.mp (ea7.mp hT.nd) j t (by omega) ht hjt (by rw[e1,e2,e])
 · show [G1 (J.set u.toNat f) u]=[some f];rw[ah4 (by omega)]
def bi8:Sp:=fun vs H Q _=>∃(a:Addr) (bs:List Addr) (Rs:List (List Int)) (l k:Nat),vs=[.ref a,.int ((Rs.length*k:Nat):Int)]/\H a=some (.lst (bs.map V.ref))/\o3 H bs Rs/\1<=Rs.length/\(∀r∈Rs,r.length=l)/\0 < l/\Rs.length*l<=40/\ec8 l k=1/\
 ∀(o:Addr) (J:List Int) (H':Hp),H o=none->e8 H H'->H' o=some (.lst (J.map V.int))->K8 l k Rs J->Q (.ref o) H'
theorem ai8:m9 ["rings","m","whole","joined","lane","ring","step","thing"] ["rings","m"] (j7 ai3):=⟨rfl,rfl,rfl,by decide+kernel,rfl,by decide+kernel,by decide+kernel⟩
theorem dg0 {f:Addr}{fd:FuncData}(F:C7 K "join_rings" "join_rings" ai3 f fd)(B:Bl mg):n6 P w K mg base E9 1 f fd ["rings","m"] bi8:=by
 refine F.ok ai8 (fun vs H Q E h=> ?_) (fun cdv A outer s H vs Q E hr h=> ?_)
 · obtain ⟨a,bs,Rs,l,k,rfl,_⟩:=h;rfl
 · obtain ⟨a,bs,Rs,l,k,rfl,ha,rows,d1,hRl,l0,dl,cop,q⟩:=h
   refine ⟨_,c7 (i4 (i:=2) ai8.nd rfl (Or.inl rfl) (i7 O4 (x6 B.len (c5 (pv 0) c6)) (x6 B.len (c5 (J9 C5 (pv 0) g9 (fun _ _=>rfl)) c6))))
     (c7 (i4 (i:=3) ai8.nd rfl (Or.inl rfl) (i7 bg9 (o8 (c5 g9 c6)) (pv 2)))
     (c7 (o6 PassesOwn.never rfl (ao1 B.enum (c5 (pv 0) c6)) (X2 rfl (C4 (j6 (i:=4) ai8.nd rfl (Or.inl rfl)) (C4 (j6 (i:=5) ai8.nd rfl (Or.inl rfl)) S9)))
       (g6 (o6 PassesOwn.never rfl (ao1 B.enum (c5 (pv 5) c6)) (X2 rfl (C4 (j6 (i:=6) ai8.nd rfl (Or.inl rfl)) (C4 (j6 (i:=7) ai8.nd rfl (Or.inl rfl)) S9)))
         (g6 (an1 (pv 7) (av8 (pv 3) (i7 C6 (i7 E7 (pv 4) (i7 O4 (pv 6) (pv 1))) (pv 2)) ah0))))))
     (g6 (l8 (pv 3))))),?_⟩
   try dsimp only[x9,Cx.nox,Cx.wish]
   have lb:bs.length=Rs.length:=rows.1;have dR:Rs.length<=Rs.length*l:=ed5 _ l0;have lR:l<=Rs.length*l:=en0 _ (by omega);have hb0:bs[0]? =some (bs[0]'(by omega)):=dz1 _;generalize (bs[0]'(by omega))=b0 at hb0;have hr0:Rs[0]? =some (Rs[0]'(by omega)):=dz1 _;have lr0:(Rs[0]'(by omega)).length=l:=hRl _ (ec6 _);generalize (Rs[0]'(by omega))=r0 at hr0 lr0;have h0:=rows.2 0 b0 r0 hb0 hr0;refine ⟨_,rfl,a,_,rfl,.inl (h8.of ha),_,rfl,a,_,_,_,rfl,rfl,h8.of ha,G9 (j:=0) (by rw[dz4,hb0];rfl),b0,_,rfl,.inl (h8.of h0),_,_,rfl,rfl,.inl ⟨by rw[dz0];omega,by rw[dz0];omega⟩,?_⟩;rw[dz0,dz0,lb,lr0]
   dsimp only
   have ew:((Rs.length:Nat):Int)*((l:Nat):Int)=((Rs.length*l:Nat):Int):=(ed4 _ _).symm;rw[ew];obtain ⟨D,hD⟩:∃D,D=Rs.length:=⟨_,rfl⟩;rw[<-hD] at d1 dl lb dR lR ⊢;obtain ⟨N,hN⟩:∃N,N=D*l:=⟨_,rfl⟩;rw[<-hN] at dl dR lR ⊢;refine ⟨(by show 1<=sizeLine;decide),fun e he=> ?_⟩;refine ⟨_,rfl,e,_,_,rfl,rfl,c8,by omega,by omega,by show 1*_<=sizeLine;rw[sizeLine_eq];omega,fun n hn=> ?_⟩;rw[show ((N:Nat):Int).toNat=N by omega,bd5]
   have hne:n≠e:=fun z=>by rw[z,c8] at hn;cases hn
   have hn0:H n=none:=by rw[g7 hne] at hn;exact hn
   have s1:e8 H (c9 (c9 H e (.lst [.int 0])) n (.lst ((ec3 N (0:Int)).map V.int))):=(e8.upd_new he).upd_r hn0;have h1n:(c9 (c9 H e (.lst [.int 0])) n (.lst ((ec3 N (0:Int)).map V.int))) n=some (.lst ((ec3 N (0:Int)).map V.int)):=c8;generalize (c9 (c9 H e (.lst [.int 0])) n (.lst ((ec3 N (0:Int)).map V.int)))=H1 at s1 h1n ⊢;have T:=ar8 (d:=D) l0 cop;have lT:=ab9 D l k;obtain ⟨fl,fg⟩:=ar9 l0 hRl
   refine ⟨_,rfl,a,rfl,⟨_,h8.of (s1 a _ ha)⟩,ah5 (K:=K) (a:=a) (xs:=bs.map V.ref) (fun i σ H2=>∃(J:List Int) (v4 v5 v6 v7:Option V),σ=[some (.ref a),some (.int ((D*k:Nat):Int)),some (.int ((N:Nat):Int)),some (.ref n),v4,v5,v6,v7]/\H2 n=some (.lst (J.map V.int))/\J.length=N/\((V2 D l k).take (i*l)).map (G1 J)=(Rs.flatten.take (i*l)).map some/\e8 H H2)
     ⟨_,none,none,none,none,rfl,h1n,by rw[ek4],by rw[ee5];rfl,s1⟩ (fun i σ H2 _ ⟨_,_,_,_,_,_,_,_,_,s⟩=>h8.of (s a _ ha)) ?_ ?_⟩
   · rintro i y σ H2 t hi ⟨J,v4,v5,v6,v7,rfl,h2n,lJ,hmap,s2⟩ ht;rw[dz4] at hi
     cases hA:bs[i]? with
     |none=>rw[hA] at hi;cases hi
     |some b=>
      rw[hA] at hi;cases hi;have hil:i < bs.length:=(dz2.mp hA).1
      have hiD:i < D:=by omega
      have hri:Rs[i]? =some (Rs[i]'(by omega)):=dz1 _;have lri:(Rs[i]'(by omega)).length=l:=hRl _ (ec6 _);generalize (Rs[i]'(by omega))=r at hri lri;have hrow:=rows.2 i b r hA hri;have s23:e8 H2 (c9 H2 t (.tup [.int (i:Int),.ref b])):=e8.upd_new ht;refine ⟨t,_,rfl,O3.of c8,rfl,_,_,rfl,_,_,rfl,rfl,?_⟩;generalize (c9 H2 t (.tup [.int (i:Int),.ref b]))=H3 at s23 ⊢;have s3:=s2.trans s23;have h3b:=s3 b _ hrow
      refine ⟨_,rfl,b,rfl,⟨_,h8.of h3b⟩,ah5 (K:=K) (a:=b) (xs:=r.map V.int) (fun j σ H4=>∃(J:List Int) (v6 v7:Option V),σ=[some (.ref a),some (.int ((D*k:Nat):Int)),some (.int ((N:Nat):Int)),some (.ref n),some (.int (i:Int)),some (.ref b),v6,v7]/\H4 n=some (.lst (J.map V.int))/\J.length=N/\((V2 D l k).take (i*l+j)).map (G1 J)=(Rs.flatten.take (i*l+j)).map some/\e8 H H4)
        ⟨J,v6,v7,rfl,s23 n _ h2n,lJ,hmap,s3⟩ (fun j σ H4 _ ⟨_,_,_,_,_,_,_,s⟩=>h8.of (s b _ hrow)) ?_ ?_⟩
      · rintro j y σ H4 t2 hj ⟨J,v6,v7,rfl,h4n,lJ,hmap,s4⟩ ht2;obtain ⟨z,hz,rfl⟩:=O0 hj
        have hjl:j < l:=by rw[<-lri];exact (dz2.mp hz).1
        have s45:e8 H4 (c9 H4 t2 (.tup [.int (j:Int),.int z])):=e8.upd_new ht2;refine ⟨t2,_,rfl,O3.of c8,rfl,_,_,rfl,_,_,rfl,rfl,?_⟩;generalize (c9 H4 t2 (.tup [.int (j:Int),.int z]))=H5 at s45 ⊢;have h5n:=s45 n _ h4n
        have tlt:i*l+j < D*l:=by
          calc i*l+j < i*l+l:=by omega
            _=(i+1)*l:=by rw[ej9]
            _<=D*l:=eg9 l hiD
        have dv1:(i*l+j)/l=i:=by rw[ef5,Nat.mul_add_div l0,Nat.div_eq_of_lt hjl,eg8]
        have dv2:(i*l+j)%l=j:=by rw[ef5,ev1,eg0 hjl]
        have hTt:(V2 D l k)[i*l+j]? =some ((N6 D l k i j:Nat):Int):=by
          unfold V2;rw[dz4,ed8 tlt];show some ((N6 D l k ((i*l+j)/l) ((i*l+j)%l):Nat):Int)=_;rw[dv1,dv2]
        have hFt:Rs.flatten[i*l+j]? =some z:=by
          rw[fg i j (by omega) hjl,dz5,hri];exact hz
        have ep:((i:Int)+(j:Int)*((D*k:Nat):Int))%((N:Nat):Int)=((N6 D l k i j:Nat):Int):=by
          rw[<-bl2 hiD l0,<-ed4,<-ev0,<-ei9,hN]
        have plt:N6 D l k i j < D*l:=ao3 hiD l0;refine ⟨_,rfl,_,rfl,_,rfl,_,rfl,_,rfl,_,_,rfl,rfl,.inl ⟨by omega,by omega⟩,_,_,rfl,rfl,_,rfl,_,_,rfl,rfl,(by show (0:Int) < (N:Int);omega),?_⟩
        dsimp only
        rw[ep];refine ⟨n,_,_,N6 D l k i j,rfl,rfl,h5n,?_,?_⟩
        · unfold ixN;rw[dz0,if_pos (by omega),if_pos (by omega)];rfl
        have es:(J.map V.int).set (N6 D l k i j) (.int z)=(J.set (N6 D l k i j) z).map V.int:=by rw[eq6]
        rw[es];refine ⟨_,_,_,rfl,c8,by rw[el9];exact lJ,?_,fun c o hc=>by rw[g7 (g8 hc hn0)];exact s45 c o (s4 c o hc)⟩;have:=cy8 (J:=J) T (by rw[lT];omega) hTt hFt hmap;rw[ee0] at this;exact this
      · rintro σ H4 ⟨J,v6,v7,rfl,h4n,lJ,hmap,s4⟩;rw[dz0,lri] at hmap;refine ⟨J,_,_,_,_,rfl,h4n,lJ,?_,s4⟩;rw[ej9];exact hmap
   · rintro σ H2 ⟨J,v4,v5,v6,v7,rfl,h2n,lJ,hmap,s2⟩;rw[dz0,lb,ej5 (by rw[lT];exact dz3 _),ej5 (by rw[fl,<-hD];exact dz3 _)] at hmap;refine ⟨_,rfl,q n J H2 hn0 s2 h2n ⟨by rw[lJ,hN,hD],by rw[<-hD];exact hmap⟩⟩
end
end My
namespace My
local macro_rules|`(tactic|omega)=>`(tactic|lia)
open PySem L2 Mth
section
variable {P:Program} {w:World} {K:PySem.W.Frag} {mg:Str->Option Value} {base:Heap}
def bi9:Sp:=fun vs H Q _=>∃(n:Int),vs=[.int n]/\1<=n/\Q .non H
theorem ds0:m9 ["number"] ["number"] (j7 V5):=⟨rfl,rfl,rfl,by decide+kernel,rfl,by decide+kernel,by decide+kernel⟩
theorem dn3 {f:Addr}{fd:FuncData}(F:C7 K "must_be_from_one" "must_be_from_one" V5 f fd)(cW:n0 P w K mg base "is_whole" 1 ["thing"] (ag6 K)):n6 P w K mg base E9 2 f fd ["number"] bi9:=by
 refine F.ok ds0 (fun vs H Q E h=> ?_) (fun cdv A outer s H vs Q E hr h=> ?_)
 · obtain ⟨n,rfl,_⟩:=h;rfl
 · obtain ⟨n,rfl,h1,q⟩:=h;have hr1:l9 1 _:=hr.mono (by decide);refine ⟨_,g6 (B5 (Q4 (U9 (S6 (i8 cW hr1 (c5 (pv 0) c6)))) (Z8 (j8 aj9 (pv 0) g9 (n5 _)))).pt (g6 ab1) o4),?_⟩
   try dsimp only[x9,Cx.nox,Cx.wish]
   refine ⟨_,rfl,.int n,_,true,false,rfl,.int n,Y4 K "int",V1 K,true,rfl,?_⟩;refine C0 ⟨_,rfl,_,_,rfl,rfl,_,rfl,?_⟩;rw[decide_eq_false (show ¬n < 1 by omega)];exact C0 q
end
end My
namespace My
local macro_rules|`(tactic|omega)=>`(tactic|lia)
open PySem L2 Mth
section
variable {P:Program} {w:World} {K:PySem.W.Frag} {mg:Str->Option Value} {base:Heap}
def C8 (es:List (Nat×Addr)):List (o9×V):=es.map fun e=>(Sum.inl (e.1:Int),V.ref e.2)
theorem by9 {es:List (Nat×Addr)}{l:Nat}{v:V}(h:C9 (C8 es) (Sum.inl (l:Int))=some v):∃e∈es,e.1=l/\v= .ref e.2:=by
 unfold C9 at h
 cases hf:(C8 es).find? (fun kv=>decide (kv.1=Sum.inl (l:Int))) with
 |none=>rw[hf] at h;cases h
 |some kv=>
  rw[hf] at h;have hk:=of_decide_eq_true (List.find?_some (p:=fun kv:o9×V=>decide (kv.1=Sum.inl (l:Int))) hf);obtain ⟨e,he,rfl⟩:=ea2.mp (List.mem_of_find?_eq_some hf);have hk':(Sum.inl (e.1:Int):o9)=Sum.inl (l:Int):=hk;have:=Sum.inl.inj hk';exact ⟨e,he,by omega,(Option.some.inj h).symm⟩
theorem bz0 {es:List (Nat×Addr)}{l:Nat}(h:C9 (C8 es) (Sum.inl (l:Int))=none):l∉es.map (·.1):=by
 intro hm;obtain ⟨e,he,rfl⟩:=ea2.mp hm;unfold C9 at h;have h':=Option.map_eq_none_iff.mp h;exact List.find?_eq_none.mp h' (Sum.inl (e.1:Int),V.ref e.2) (ea2.mpr ⟨e,he,rfl⟩) (by simp)
theorem bm6 {α β:Type}:∀{es:List (α×β)},(es.map (·.1)).Nodup->∀{e f:α×β},e∈es->f∈es->e.1=f.1->e=f
 |[],_,e,f,h,_,_=>by simp at h
 |x::es,nd,e,f,he,hf,h=>by
  obtain ⟨n1,n2⟩:=ed6.mp nd
  rcases ea8.mp he with z|z
  · rcases ea8.mp hf with y|y
    · rw[z,y]
    · exact absurd (ea2.mpr ⟨f,y,by rw[<-h,z]⟩) n1
  · rcases ea8.mp hf with y|y
    · exact absurd (ea2.mpr ⟨e,z,by rw[h,y]⟩) n1
    · exact bm6 n2 z y h
theorem cg4 {α β:Type}:∀{es:List (α×β)},(es.map (·.2)).Nodup->∀{e f:α×β},e∈es->f∈es->e.2=f.2->e=f
 |[],_,e,f,h,_,_=>by simp at h
 |x::es,nd,e,f,he,hf,h=>by
  obtain ⟨n1,n2⟩:=ed6.mp nd
  rcases ea8.mp he with z|z
  · rcases ea8.mp hf with y|y
    · rw[z,y]
    · exact absurd (ea2.mpr ⟨f,y,by rw[<-h,z]⟩) n1
  · rcases ea8.mp hf with y|y
    · exact absurd (ea2.mpr ⟨e,z,by rw[h,y]⟩) n1
    · exact cg4 n2 z y h
theorem cs2 {es:List (Nat×Addr)}(nd:(es.map (·.1)).Nodup){e:Nat×Addr}(he:e∈es):C9 (C8 es) (Sum.inl (e.1:Int))=some (.ref e.2):=by
 cases h:C9 (C8 es) (Sum.inl (e.1:Int)) with
 |none=>exact absurd (ea2.mpr ⟨e,he,rfl⟩) (bz0 h)
 |some v=>
  obtain ⟨f,hf,h1,rfl⟩:=by9 h;rw[bm6 nd hf he h1]
theorem cg5 {rs:List (List Int)}{r:List Int}{l:Nat}(h:r.length=l):K9 (rs++[r]) l=K9 rs l++[r]:=by
 unfold K9;rw[ek6,eh7 (by simpa using h),en1]
theorem cg6 {rs:List (List Int)}{r:List Int}{l:Nat}(h:r.length≠l):K9 (rs++[r]) l=K9 rs l:=by
 unfold K9;rw[ek6,eh8 (by simpa using h),en1,eb8]
theorem cy9 {rs:List (List Int)}{l:Nat}(h:∀r∈rs,r.length≠l):K9 rs l=[]:=by
 unfold K9
 exact List.filter_eq_nil_iff.mpr fun r hr=>by simpa using h r hr
structure cs3 (H0 H:Hp)(d:Addr)(es:List (Nat×Addr))(rs:List (List Int)):Prop where
 nk:(es.map (·.1)).Nodup
 na:(es.map (·.2)).Nodup
 row:∀e∈es,∃cs:List Addr,H e.2=some (.lst (cs.map V.ref))/\o3 H0 cs (K9 rs e.1)
 key:∀k∈es.map (·.1),∃r∈rs,r.length=k
 all:∀r∈rs,r.length∈es.map (·.1)
 nd:∀e∈es,e.2≠d
def bb1:Sp:=fun vs H Q _=>∃(a:Addr) (as:List Addr) (rs:List (List Int)),vs=[.ref a]/\H a=some (.lst (as.map V.ref))/\o3 H as rs/\rs.length<=40/\
 ∀(d:Addr) (es:List (Nat×Addr)) (H':Hp),H d=none->e8 H H'->H' d=some (.dK (C8 es))->cs3 H H' d es rs->es.length<=40->(∀e∈es,H e.2=none)->Q (.ref d) H'
theorem bz1:m9 ["rings","by_length","ring"] ["rings"] (j7 Y5):=⟨rfl,rfl,rfl,by decide+kernel,rfl,by decide+kernel,by decide+kernel⟩
theorem cz0 {f:Addr}{fd:FuncData}(F:C7 K "sort_by_length" "sort_by_length" Y5 f fd)(B:Bl mg):n6 P w K mg base E9 1 f fd ["rings"] bb1:=by
 refine F.ok bz1 (fun vs H Q E h=> ?_) (fun cdv A outer s H vs Q E hr h=> ?_)
 · obtain ⟨a,as,rs,rfl,_⟩:=h;rfl
 · obtain ⟨a,as,rs,rfl,ha,rows,lrs,q⟩:=h
   refine ⟨_,c7 (i4 (i:=1) bz1.nd rfl (Or.inl rfl) Y3)
     (c7 (o6 PassesOwn.never rfl (G8 (pv 0)) (j6 (i:=2) bz1.nd rfl (Or.inl rfl))
       (g6 (y6 (E4 (cq1 (pv 1) (c5 (x6 B.len (c5 (pv 2) c6)) (c5 (o8 c6) c6))) (c5 (pv 2) c6)))))
     (g6 (l8 (pv 1)))),?_⟩
   try dsimp only[x9,Cx.nox,Cx.wish]
   refine fun d hd=> ?_
   have s1:e8 H (c9 H d (.dK [])):=e8.upd_new hd;have h1d:(c9 H d (.dK [])) d=some (.dK (C8 [])):=c8;generalize (c9 H d (.dK []))=H1 at s1 h1d ⊢
   refine ⟨_,rfl,a,rfl,⟨_,h8.of (s1 a _ ha)⟩,K1 (K:=K) (a:=a) (xs:=as.map V.ref) (fun i σ H2=>∃(es:List (Nat×Addr)) (v2:Option V),σ=[some (.ref a),some (.ref d),v2]/\H2 d=some (.dK (C8 es))/\cs3 H H2 d es (rs.take i)/\es.length<=i/\(∀e∈es,H e.2=none)/\e8 H H2)
     ⟨[],none,rfl,h1d,⟨ef6,ef6,fun e h=>by simp at h,fun k h=>by simp at h,fun r h=>by simp at h,fun e h=>by simp at h⟩,dz3 _,fun e h=>by simp at h,s1⟩ (fun i σ H2 _ ⟨_,_,_,_,_,_,_,s⟩=>h8.of (s a _ ha)) ?_ ?_⟩
   · rintro i y σ H2 hi ⟨es,v2,rfl,h2d,bl,les,fr,s2⟩;rw[dz4] at hi
     cases hA:as[i]? with
     |none=>rw[hA] at hi;cases hi
     |some b=>
      rw[hA] at hi;cases hi;have hil:i < as.length:=(dz2.mp hA).1;have hri:rs[i]? =some (rs[i]'(by rw[<-rows.1];exact hil)):=dz1 _;generalize (rs[i]'(by rw[<-rows.1];exact hil))=r at hri;have hb0:=rows.2 i b r hA hri;have hb:=s2 b _ hb0
      have hi40:i < 40:=by have:=rows.1;omega
      have et:rs.take (i+1)=rs.take i++[r]:=l6 hri;refine ⟨_,rfl,.inr (.inr (.inl ⟨rfl,.inl ⟨_,h2d⟩⟩)),_,rfl,b,_,rfl,.inl (h8.of hb),eb4 _,fun e he=> ?_⟩;rw[dz0];have nde:d≠e:=g8 h2d he;have s23:e8 H2 (c9 H2 e (.lst [])):=e8.upd_new he;have h3e:(c9 H2 e (.lst [])) e=some (.lst []):=c8
      have kp:∀c,c≠e->(c9 H2 e (.lst [])) c=H2 c:=fun c hc=>g7 hc
      generalize (c9 H2 e (.lst []))=H3 at s23 h3e kp ⊢;refine ⟨d,C8 es,Sum.inl (r.length:Int),.ref e,rfl,rfl,s23 d _ h2d,?_,fun v hv=> ?_,fun hn=> ?_⟩
      · unfold C8;rw[dz0,sizeLine_eq];omega
      · obtain ⟨e0,he0,hl0,rfl⟩:=by9 hv;obtain ⟨cs,hcs,rcs⟩:=bl.row e0 he0;have h3x:=s23 e0.2 _ hcs
        have lx:(cs.map V.ref).length<=1000:=by
          rw[dz0,rcs.1];have:=ei7 (fun r=>decide (r.length=e0.1)) (rs.take i);rw[eb2] at this;unfold K9;omega
        refine ⟨.inl ⟨rfl,_,h8.of h3x⟩,_,rfl,e0.2,_,_,rfl,rfl,h3x,x8 lx,?_⟩;refine ⟨es,_,rfl,by rw[g7 (bl.nd e0 he0).symm];exact s23 d _ h2d,⟨bl.nk,bl.na,fun e1 he1=> ?_,fun k hk=> ?_,fun r' hr'=> ?_,bl.nd⟩,by omega,fr,fun c o hc=>by rw[g7 (g8 hc (fr e0 he0))];exact s23 c o (s2 c o hc)⟩
        · by_cases h12:e1.2=e0.2
          · have:e1=e0:=cg4 bl.na he1 he0 h12;subst this;refine ⟨cs++[b],by rw[c8,dz6];rfl,?_⟩;rw[et,cg5 hl0.symm];exact R9 rcs hb0
          · obtain ⟨ys,hys,rys⟩:=bl.row e1 he1;refine ⟨ys,by rw[g7 h12];exact s23 _ _ hys,?_⟩;rw[et,cg6 (fun z=>h12 (by rw[bm6 bl.nk he1 he0 (by omega)]))];exact rys
        · obtain ⟨r',hr',e⟩:=bl.key k hk;exact ⟨r',by rw[et];exact ed9 _ hr',e⟩
        · rw[et] at hr'
          rcases ea3.mp hr' with z|z
          · exact bl.all r' z
          · have:r'=r:=by simpa using z
            rw[this];exact ea2.mpr ⟨e0,he0,hl0⟩
      · have hnk:=bz0 hn
        have ekv:C8 es++[(Sum.inl (r.length:Int),V.ref e)]=C8 (es++[(r.length,e)]):=by unfold C8;rw[dz6];rfl
        rw[ekv]
        have h4e:(c9 H3 d (.dK (C8 (es++[(r.length,e)])))) e=some (.lst []):=by rw[g7 nde.symm];exact h3e
        refine ⟨.inl ⟨rfl,_,h8.of h4e⟩,_,rfl,e,_,_,rfl,rfl,h4e,x8 (eb4 _),?_⟩
        have hne:∀e1∈es,e1.2≠e:=fun e1 he1 z=>by
          obtain ⟨ys,hys,_⟩:=bl.row e1 he1;rw[z,he] at hys;cases hys
        refine ⟨es++[(r.length,e)],_,rfl,by rw[g7 nde,c8],⟨?_,?_,fun e1 he1=> ?_,fun k hk=> ?_,fun r' hr'=> ?_,fun e1 he1=> ?_⟩,by rw[dz9];show es.length+1<=i+1;omega,fun e1 he1=> ?_,fun c o hc=> ?_⟩
        · rw[dz6,ef7];refine ⟨bl.nk,by simp,fun x hx y hy=> ?_⟩
          have:y=r.length:=by simpa using hy
          rw[this]
          exact fun z=>hnk (by rw[<-z];exact hx)
        · rw[dz6,ef7];refine ⟨bl.na,by simp,fun x hx y hy=> ?_⟩
          have:y=e:=by simpa using hy
          rw[this];obtain ⟨e1,he1,rfl⟩:=ea2.mp hx;exact hne e1 he1
        · rcases ea3.mp he1 with z|z
          · obtain ⟨ys,hys,rys⟩:=bl.row e1 z;refine ⟨ys,by rw[g7 (hne e1 z),g7 (bl.nd e1 z),kp _ (hne e1 z)];exact hys,?_⟩;rw[et,cg6 (fun y=>hnk (by rw[y];exact ea2.mpr ⟨e1,z,rfl⟩))];exact rys
          · have:e1=(r.length,e):=by simpa using z
            subst this;refine ⟨[b],c8,?_⟩;show o3 H [b] (K9 (rs.take (i+1)) r.length);rw[et,cg5 rfl,cy9 (fun r' hr' y=>hnk (by rw[<-y];exact bl.all r' hr'))];exact R9 (as:=[]) (rs:=[]) ⟨rfl,fun j a r h=>by simp at h⟩ hb0
        · rw[dz6] at hk
          rcases ea3.mp hk with z|z
          · obtain ⟨r',hr',e⟩:=bl.key k z;exact ⟨r',by rw[et];exact ed9 _ hr',e⟩
          · have:k=r.length:=by simpa using z
            exact ⟨r,by rw[et];exact ea9 _ (by simp),this.symm⟩
        · rw[et] at hr';rw[dz6]
          rcases ea3.mp hr' with z|z
          · exact ed9 _ (bl.all r' z)
          · have:r'=r:=by simpa using z
            rw[this];exact ea9 _ (by simp)
        · rcases ea3.mp he1 with z|z
          · exact bl.nd e1 z
          · have:e1=(r.length,e):=by simpa using z
            subst this;exact nde.symm
        · rcases ea3.mp he1 with z|z
          · exact fr e1 z
          · have:e1=(r.length,e):=by simpa using z
            subst this;exact s2.free he
        · have h2c:=s2 c o hc;rw[g7 (g8 h2c he),g7 (g8 hc hd),kp _ (g8 h2c he)];exact h2c
   · rintro σ H2 ⟨es,v2,rfl,h2d,bl,les,fr,s2⟩;rw[dz0,rows.1,ec4] at bl;rw[dz0,rows.1] at les;exact ⟨_,rfl,q d es H2 hd s2 h2d bl (by omega) fr⟩
end
end My
namespace My
local macro_rules|`(tactic|omega)=>`(tactic|lia)
open PySem L2 Mth
section
variable {P:Program} {w:World} {K:PySem.W.Frag} {mg:Str->Option Value} {base:Heap}
section
variable {X:Cx}
theorem cs4 {o:Expr}{to:TE}{apos pos:Pos}(ho:PE X o to)(hbase:attributeBase o "pop" X.env (eval o X.env)=eval o X.env:=by rfl)(hline:(apos.endLine==pos.line)=true:=by rfl):
 PE X (.Call (.Attribute o "pop" apos) [] [] pos) (dj9 X.K "list" dk1 to):=dk0 PySem.F.plainAttrs_list PySem.F.slot_list_pop PySem.F.type_list_pop dk2 ho hbase hline
theorem cs5 (K:PySem.W.Frag){o e:Expr}{to:TE}{t:TA}{apos pos:Pos}(ho:PE X o to)(ha:PA X [e] t)(hK:X.K=K:=by rfl)
   (hbase:attributeBase o "pop" X.env (eval o X.env)=eval o X.env:=by rfl)
   (hfew:((backTo pos (starEach [e] X.env)).all (fun x=> !x.1)&&(backToKw pos (keywordEach [] X.env)).all (fun x=>x.1.isSome)
     &&decide ([e].length+([]:List Keyword).length+(if ([]:List Keyword).isEmpty then 0 else 1) < 30))=true:=by rfl)
   (hline:(apos.endLine==pos.line)=true:=by rfl) (hs:starEach [e] X.env=(false,eval e X.env)::starEach [] X.env:=by rfl) (hplain:(backTo pos (starEach [] X.env)).any (·.1)=false:=by rfl):
   PE X (.Call (.Attribute o "pop" apos) [e] [] pos) (tBM K "list" cn8 to t):=by
 subst hK;exact aq2 PySem.F.plainAttrs_list PySem.F.slot_list_pop PySem.F.type_list_pop cv6 ho ha hbase hfew hline hs hplain
end
def bz2 (K:PySem.W.Frag):Sp:=fun vs H Q _=>∃(a:Addr) (ns:List Int) (k:Int),vs=[.ref a,.int k]/\h8 K H a (ns.map V.int)/\0<=k/\∀z,Q (.int z) H
theorem dn4:m9 ["script","k"] ["script","k"] (j7 af2):=⟨rfl,rfl,rfl,by decide+kernel,rfl,by decide+kernel,by decide+kernel⟩
theorem dg1 {f:Addr}{fd:FuncData}(F:C7 K "_law_cell_at" "_law_cell_at" af2 f fd)(B:Bl mg):n6 P w K mg base E9 1 f fd ["script","k"] (bz2 K):=by
 refine F.ok dn4 (fun vs H Q E h=> ?_) (fun cdv A outer s H vs Q E hr h=> ?_)
 · obtain ⟨a,ns,k,rfl,_⟩:=h;rfl
 · obtain ⟨a,ns,k,rfl,ha,k0,q⟩:=h;refine ⟨_,c7 (B5 (j8 aj9 (pv 1) (x6 B.len (c5 (pv 0) c6)) (n5 _)) (g6 (l8 (J9 C5 (pv 0) (pv 1) (fun _ _=>rfl)))) o4) (g6 (l8 g9)),?_⟩
   try dsimp only[x9,Cx.nox,Cx.wish]
   refine ⟨_,rfl,_,rfl,a,_,rfl,.inl ha,_,_,rfl,rfl,_,rfl,?_⟩;rw[dz0];refine aa0 (fun h=> ?_) (fun h=>q 0);have h:k < (ns.length:Int):=of_decide_eq_true h;exact ⟨_,rfl,_,rfl,a,_,k,_,rfl,rfl,ha,W0 k0 h,q _⟩
def bz3:Sp:=fun vs H Q _=>∃(z k:Int),vs=[.int z,.int k]/\0<=k/\k<=1000/\∀r:Int,0<=r->Q (.int r) H
theorem bz4:m9 ["cell","k","one"] ["cell","k"] (j7 as7):=⟨rfl,rfl,rfl,by decide+kernel,rfl,by decide+kernel,by decide+kernel⟩
theorem dg2 {f:Addr}{fd:FuncData}(F:C7 K "_law_stir" "_law_stir" as7 f fd):n6 P w K mg base E9 1 f fd ["cell","k"] bz3:=by
 refine F.ok bz4 (fun vs H Q E h=> ?_) (fun cdv A outer s H vs Q E hr h=> ?_)
 · obtain ⟨z,k,rfl,_⟩:=h;rfl
 · obtain ⟨z,k,rfl,k0,k1,q⟩:=h
   refine ⟨_,c7 (i4 (i:=2) bz4.nd rfl (Or.inl rfl) (i7 C6 (i7 O4 (i7 E7 (i7 E7 (i7 C6 (pv 0) g9) (i7 O4 g9 (pv 1))) g9) g9) g9))
     (c7 (i4 (i:=2) bz4.nd rfl (Or.inl rfl) (i7 C6 (i7 O4 (pv 2) (pv 2)) g9))
     (g6 (l8 (i7 cd9 (i7 C6 (i7 O4 (i7 E7 (pv 2) (i7 O4 g9 (pv 1))) g9) g9) g9)))),?_⟩
   try dsimp only[x9,Cx.nox,Cx.wish]
   have e64:(2:Int)^64=18446744073709551616:=by decide
   refine ⟨_,rfl,_,_,rfl,rfl,(by show (0:Int) < 2147483629;decide),_,rfl,_,_,rfl,rfl,.inl ⟨by decide,by decide⟩,_,_,rfl,rfl,_,_,rfl,rfl,_,_,rfl,rfl,.inr ⟨by decide,by decide⟩,_,_,rfl,rfl,(by show (0:Int) < 2147483647;decide),?_⟩;refine ⟨_,rfl,_,rfl,_,_,rfl,rfl,.inl ⟨by rw[e64];omega,by rw[e64];omega⟩,_,_,rfl,rfl,(by show (0:Int) < 2147483587;decide),?_⟩;refine ⟨_,rfl,_,rfl,_,_,rfl,rfl,.inl ⟨by decide,by decide⟩,_,_,rfl,rfl,_,_,rfl,rfl,.inr ⟨by decide,by decide⟩,_,_,rfl,rfl,(by show (0:Int) < 2147483563;decide),_,_,rfl,rfl,⟨by decide,by decide⟩,?_⟩;exact q _ (Int.ediv_nonneg (ee6 _ (by decide)) (by decide))
def B7 (H:Hp)(a:Addr):Prop:=∃ds:List Int,H a=some (.lst (ds.map V.int))/\(∀x∈ds,0<=x)/\ds.length<=1000
def bz5:Sp:=fun vs H Q _=>∃(z:Int) (n:Nat),vs=[.int z,.int (n:Int)]/\n<=900/\∀(l:Addr) (H':Hp),H l=none->e8 H H'->B7 H' l->Q (.ref l) H'
theorem ai9:m9 ["cell","many","found","digits","k","number"] ["cell","many"] (j7 as8):=⟨rfl,rfl,rfl,by decide+kernel,rfl,by decide+kernel,by decide+kernel⟩
theorem dg3 {f:Addr}{fd:FuncData}(F:C7 K "_law_deck" "_law_deck" as8 f fd)(B:Bl mg)(cS:n0 P w K mg base "_law_stir" 1 ["cell","k"] bz3):n6 P w K mg base E9 2 f fd ["cell","many"] bz5:=by
 refine F.ok ai9 (fun vs H Q E h=> ?_) (fun cdv A outer s H vs Q E hr h=> ?_)
 · obtain ⟨z,n,rfl,_⟩:=h;rfl
 · obtain ⟨z,n,rfl,n9,q⟩:=h
   refine ⟨_,c7 (i4 (i:=2) ai9.nd rfl (Or.inl rfl) (o8 c6))
     (c7 (i4 (i:=3) ai9.nd rfl (Or.inl rfl) (pv 0))
     (c7 (o6 PassesOwn.never rfl (K3 (by rfl) B.range (c5 (pv 1) c6)) (j6 (i:=4) ai9.nd rfl (Or.inl rfl))
       (c7 (i4 (i:=5) ai9.nd rfl (Or.inl rfl) (i8 cS hr (c5 (pv 0) (c5 (pv 4) c6))))
       (c7 (B5 (j8 bg5 (pv 0) (i7 bu6 g9 g9) (n5 _)) (g6 (i4 (i:=5) ai9.nd rfl (Or.inl rfl) (i7 C6 (pv 3) g9))) o4)
       (c7 (i4 (i:=3) ai9.nd rfl (Or.inl rfl) (i7 cd9 (pv 3) g9))
       (g6 (y6 (E4 (pv 2) (c5 (pv 5) c6))))))))
     (g6 (l8 (dl2 (pv 2) (ab3 (bt2 bg4 g9))))))),?_⟩
   try dsimp only[x9,Cx.nox,Cx.wish]
   refine ⟨eb4 _,fun l hl=> ?_⟩;have s1:e8 H (c9 H l (.lst [])):=e8.upd_new hl;have h1l:(c9 H l (.lst [])) l=some (.lst []):=c8;generalize (c9 H l (.lst []))=H1 at s1 h1l ⊢;refine ⟨_,rfl,?_⟩
   refine ⟨_,rfl,(n:Int),rfl,by omega,by omega,E3 (lo:=0) (n:=((n:Nat):Int).toNat) (fun i σ H2=>∃(ds:List Int) (dg:Int) (v4 v5:Option V),σ=[some (.int z),some (.int (n:Int)),some (.ref l),some (.int dg),v4,v5]/\H2 l=some (.lst (ds.map V.int))/\ds.length=i/\(∀x∈ds,0<=x)/\e8 H H2)
     ⟨[],z,none,none,rfl,h1l,rfl,fun x hx=>by simp at hx,s1⟩ ?_ ?_⟩
   · rintro i σ H2 hi ⟨ds,dg,v4,v5,rfl,h2l,lds,pos,s2⟩;refine ⟨_,rfl,_,rfl,z,_,rfl,by omega,by omega,fun r r0=> ?_⟩;have cp:dj2 10 18:=⟨by decide,by decide,by decide⟩;refine ⟨_,rfl,_,_,rfl,rfl,cp,_,_,rfl,rfl,_,rfl,?_⟩
     have fin:∀w:Int,0<=w->∃(ds':List Int) (dg':Int) (v4 v5:Option V),[some (V.int z),some (V.int (n:Int)),some (.ref l),some (V.int (dg/720720)),some (V.int ((0:Int)+(i:Int))),some (V.int w)]=[some (V.int z),some (V.int (n:Int)),some (.ref l),some (V.int dg'),v4,v5]/\(c9 H2 l (.lst (ds.map V.int++[.int w]))) l=some (.lst (ds'.map V.int))/\ds'.length=i+1/\(∀x∈ds',0<=x)/\e8 H (c9 H2 l (.lst (ds.map V.int++[.int w]))):=fun w w0=>by
       refine ⟨ds++[w],dg/720720,_,_,rfl,by rw[c8,dz6];rfl,by rw[dz9,lds];rfl,fun x hx=> ?_,fun b o hb=>by rw[g7 (g8 hb hl)];exact s2 b o hb⟩
       rcases ea3.mp hx with y|y
       · exact pos x y
       · have:x=w:=by simpa using y
         rw[this];exact w0
     refine aa0 (fun _=> ?_) (fun _=> ?_)
     · refine ⟨_,rfl,_,_,rfl,rfl,(by show (0:Int) < 720720;decide),?_⟩;refine ⟨_,rfl,_,_,rfl,rfl,⟨by decide,by decide⟩,?_⟩;refine ⟨_,rfl,.inl ⟨rfl,_,h8.of h2l⟩,_,rfl,l,_,_,rfl,rfl,h2l,x8 (by rw[dz0];omega),?_⟩;exact fin (dg%720720) (ee6 _ (by decide))
     · refine ⟨_,rfl,_,_,rfl,rfl,⟨by decide,by decide⟩,?_⟩;refine ⟨_,rfl,.inl ⟨rfl,_,h8.of h2l⟩,_,rfl,l,_,_,rfl,rfl,h2l,x8 (by rw[dz0];omega),?_⟩;exact fin r r0
   · rintro σ H2 ⟨ds,dg,v4,v5,rfl,h2l,lds,pos,s2⟩;refine ⟨_,rfl,_,rfl,_,rfl,rfl,l,_,rfl,h8.of h2l,fun o ho=> ?_⟩;refine q o _ (s2.free ho) (s2.upd_r (s2.free ho)) ⟨ds.reverse,by rw[c8,List.map_reverse],fun x hx=>pos x (el3.mp hx),by rw[el0];omega⟩
def ap0:Sp:=fun vs H Q _=>∃(a:Addr),vs=[.ref a]/\B7 H a/\∀(r:Int) (H':Hp),0<=r->B7 H' a->j5 a H H'->Q (.int r) H'
theorem dn5:m9 ["deck"] ["deck"] (j7 as9):=⟨rfl,rfl,rfl,by decide+kernel,rfl,by decide+kernel,by decide+kernel⟩
theorem dg4 {f:Addr}{fd:FuncData}(F:C7 K "_law_next" "_law_next" as9 f fd):n6 P w K mg base E9 1 f fd ["deck"] ap0:=by
 refine F.ok dn5 (fun vs H Q E h=> ?_) (fun cdv A outer s H vs Q E hr h=> ?_)
 · obtain ⟨a,rfl,_⟩:=h;rfl
 · obtain ⟨a,rfl,⟨ds,ha,pos,len⟩,q⟩:=h;have hu:=P9 hr;refine ⟨_,c7 (B5 (j8 (an8 0 hu) (pv 0) (o8 c6) (n5 _)) (g6 (l8 g9)) o4) (g6 (l8 (cs4 (pv 0)))),?_⟩
   try dsimp only[x9,Cx.nox,Cx.wish]
   refine ⟨_,rfl,eb4 _,fun e he=> ?_⟩;have nae:a≠e:=g8 ha he
   have h1a:(c9 H e (.lst [])) a=some (.lst (ds.map V.int)):=by rw[g7 nae];exact ha
   have kb:j5 a H (c9 H e (.lst [])):=fun b o hb _=>by rw[g7 (g8 hb he)];exact hb
   refine ⟨a,e,ds.map V.int,[],_,rfl,rfl,h8.of h1a,h8.of c8,ce7 _ _ _ _,_,rfl,?_⟩;generalize (c9 H e (.lst []))=H1 at h1a kb ⊢
   cases ds with
   |nil=>exact L9 (q 0 H1 (by decide) ⟨[],h1a,pos,len⟩ kb)
   |cons x xs=>
    refine C0 ?_
    have hl:(x::xs).length - 1 < (x::xs).length:=by simp
    have hg:((x::xs).map V.int)[((x::xs).map V.int).length - 1]? =some (.int (x::xs)[(x::xs).length - 1]):=by
      rw[dz0,dz4,dz1 hl];rfl
    refine ⟨_,rfl,.inl ⟨rfl,_,h8.of h1a⟩,a,_,_,rfl,rfl,h1a,hg,?_⟩
    refine q _ _ (pos _ (ec6 hl)) ⟨(x::xs).dropLast,by rw[c8,List.map_dropLast],fun y hy=>pos y ((List.dropLast_sublist _).mem hy),by rw[eo1];omega⟩ fun b o hb hn=>by rw[g7 hn];exact kb b o hb hn
end
end My
namespace My
local macro_rules|`(tactic|omega)=>`(tactic|lia)
open PySem L2 Mth
section
variable {P:Program} {w:World} {K:PySem.W.Frag} {mg:Str->Option Value} {base:Heap}
def bb2:Sp:=fun vs H Q _=>∃(g:Addr) (n:Nat),vs=[.ref g,.int (n:Int)]/\B7 H g/\n<=40/\
 ∀(l:Addr) (p:List Int) (H':Hp),H l=none->y7 p->p.length=n->H' l=some (.lst (p.map V.int))->B7 H' g->j5 g H H'->Q (.ref l) H'
theorem W4:m9 ["deck","many","left","order","few","found","at","l","k"] ["deck","many"] (j7 at1):=⟨rfl,rfl,rfl,by decide+kernel,rfl,by decide+kernel,by decide+kernel⟩
theorem ds1:(["k","deck","left"]:List Str).Nodup:=by decide+kernel
theorem B7.some {H:Hp}{a:Addr}(h:B7 H a):∃o,H a=some o:=let ⟨_,e,_⟩:=h;⟨_,e⟩
theorem B7.same {H H':Hp}{a:Addr}(h:B7 H a)(s:e8 H H'):B7 H' a:=let ⟨ds,e,r⟩:=h;⟨ds,s _ _ e,r⟩
theorem B7.upd {H:Hp}{a b:Addr}{o:HO}(h:B7 H a)(n:a≠b):B7 (L2.c9 H b o) a:=let ⟨ds,e,r⟩:=h;⟨ds,by rw[g7 n];exact e,r⟩
theorem cz1 {f:Addr}{fd:FuncData}(F:C7 K "_law_turn" "_law_turn" at1 f fd)(B:Bl mg)(cN:n0 P w K mg base "_law_next" 1 ["deck"] ap0):n6 P w K mg base E9 2 f fd ["deck","many"] bb2:=by
 refine F.ok W4 (fun vs H Q E h=> ?_) (fun cdv A outer s H vs Q E hr h=> ?_)
 · obtain ⟨g,n,rfl,_⟩:=h;rfl
 · obtain ⟨g,n,rfl,hD,n4,q⟩:=h
   refine ⟨_,c7 (i4 (i:=2) W4.nd rfl (Or.inr rfl) (cj6 rfl B.list B.range (c5 (pv 1) c6)))
     (c7 (ce6 (i:=3) (N:=["k","deck","left"]) (nl:=1) (fr:=[0,2]) W4.nd rfl (Or.inl rfl) rfl .of (K3 (by rfl) B.range (c5 (pv 1) c6)) (fun _ _ _ _ _=>j6 (i:=0) ds1 rfl (Or.inl rfl))
       (fun _ _ _ _ _=>cw1) (fun _ _ _ _ _=>cs5 K (pv 2) (c5 (i7 C6 (i8 cN hr (c5 (pv 1) c6)) (cw6 K B.len (c5 (pv 2) c6))) c6)))
     (c7 (B5 (j8 ad0 (i7 C6 (i8 cN hr (c5 (pv 0) c6)) g9) g9 (n5 _)) (g6 (l8 (pv 3))) o4)
     (c7 (i4 (i:=4) W4.nd rfl (Or.inl rfl) (o8 (c5 (i7 E7 g9 (i7 C6 (i8 cN hr (c5 (pv 0) c6)) g9)) (c5 (i7 E7 g9 (i7 C6 (i8 cN hr (c5 (pv 0) c6)) g9)) c6))))
     (c7 (i4 (i:=5) W4.nd rfl (Or.inl rfl) (i7 bg9 (o8 (c5 g9 c6)) (pv 1)))
     (c7 (i4 (i:=6) W4.nd rfl (Or.inl rfl) g9)
     (c7 (ab2 PassesOwn.never (j8 aj9 (pv 6) (pv 1) (n5 _))
       (c7 (i4 (i:=7) W4.nd rfl (Or.inl rfl) (ce8 rfl B.min (c5 (J9 C5 (pv 4) (i7 C6 (i8 cN hr (c5 (pv 0) c6)) g9) (fun _ _=>rfl)) (c5 (i7 V0 (pv 1) (pv 6)) c6))))
       (c7 (o6 PassesOwn.never rfl (K3 (by rfl) B.range (c5 (pv 7) c6)) (j6 (i:=8) W4.nd rfl (Or.inl rfl))
         (g6 (an1 (J9 C5 (pv 3) (i7 E7 (pv 6) (i7 C6 (i7 E7 (pv 8) g9) (pv 7))) (fun _ _=>rfl)) (av8 (pv 5) (J9 C5 (pv 3) (i7 E7 (pv 6) (pv 8)) (fun _ _=>rfl)) ah0))))
       (g6 (i4 (i:=6) W4.nd rfl (Or.inl rfl) (i7 E7 (pv 6) (pv 7)))))))
     (g6 (l8 (pv 5))))))))),?_⟩
   try dsimp only[x9,Cx.nox,Cx.wish]
   refine ⟨_,rfl,_,rfl,fun r hr'=>⟨r,0,(n:Int),rfl,c8,⟨by decide,by decide,by omega,by omega⟩,by omega,fun l hl=> ?_⟩⟩
   have hlr:l≠r:=fun z=>by rw[z,c8] at hl;cases hl
   have hl0:H l=none:=by rw[g7 hlr] at hl;exact hl
   have e0:((n:Int) - 0).toNat=n:=by omega
   rw[e0];have s1:e8 H (c9 (c9 H r (.rng 0 (n:Int))) l (.lst ((ab7 0 n).map V.int))):=(e8.upd_new hr').upd_r hl0;have h1l:(c9 (c9 H r (.rng 0 (n:Int))) l (.lst ((ab7 0 n).map V.int))) l=some (.lst ((ab7 0 n).map V.int)):=c8;generalize (c9 (c9 H r (.rng 0 (n:Int))) l (.lst ((ab7 0 n).map V.int)))=H1 at s1 h1l ⊢
   have ngl:g≠l:=by obtain ⟨o,e⟩:=hD.some;exact g8 e hl0
   refine ⟨_,rfl,(n:Int),rfl,by omega,by omega,aq9 (lo:=0) (n:=((n:Nat):Int).toNat) (fun i ys σ H2=>∃(v:Option V) (ls:List V),σ=[v,some (.ref g),some (.ref l)]/\H2 l=some (.lst ls)/\(ys++ls).Perm ((ab7 0 n).map V.int)/\ys.length=i/\B7 H2 g/\j5 g H H2)
     ⟨none,_,rfl,h1l,List.Perm.refl _,rfl,hD.same s1,fun b o hb _=>s1 b o hb⟩ ?_ ?_⟩
   · rintro i ys σ H2 hi ⟨v,ls,rfl,h2l,pm,ly,D2,kb2⟩
     have hlen:ys.length+ls.length=n:=by
       have:=pm.length_eq;rw[dz9,dz0,al3] at this;exact this
     have hlp:0 < ls.length:=by omega
     refine ⟨_,rfl,.inl ⟨rfl,_,h8.of h2l⟩,_,rfl,g,rfl,D2,fun x H3 x0 D3 kb3=> ?_⟩;have h3l:=kb3 l _ h2l ngl.symm;refine ⟨_,rfl,l,_,rfl,.inl (h8.of h3l),_,_,rfl,rfl,(by show (0:Int) < (ls.length:Int);omega),?_⟩;have hm0:0<=x%(ls.length:Int):=ee6 _ (by omega);have hm1:x%(ls.length:Int) < (ls.length:Int):=eh0 _ (by omega)
     dsimp only
     generalize x%(ls.length:Int)=jx at hm0 hm1 ⊢;obtain ⟨jn,rfl⟩:=ej1 hm0
     have hjl:jn < ls.length:=by omega
     refine ⟨l,_,_,jn,ls[jn],rfl,rfl,h3l,by omega,by omega,?_,dz1 hjl,?_,?_⟩
     · have:ixN ls.length (jn:Int)=some jn:=by
         unfold ixN;rw[if_pos (by omega),if_pos (by omega)];simp
       exact (bk9 this).1
     · exact x8 (by omega)
     · refine ⟨_,_,rfl,c8,?_,by rw[dz9,ly];rfl,D3.upd ngl,fun b o hb hn=>by rw[g7 (g8 hb hl0)];exact kb3 b o (kb2 b o hb hn) hn⟩;have pe:=bh4 (l:=ls) (k:=jn) (dz1 hjl);refine List.Perm.trans ?_ pm;rw[eb3];exact List.Perm.append_left ys pe
   · rintro ys σ H2 ⟨v,ls,rfl,h2l,pm,ly,D2,kb2⟩ m hm
     have hlen:ys.length+ls.length=n:=by
       have:=pm.length_eq;rw[dz9,dz0,al3] at this;exact this
     have:ls=[]:=eh9.mp (by omega);subst this;rw[eb8] at pm;obtain ⟨ts,rfl,hts⟩:=cp0 pm;obtain ⟨hT,hTl⟩:=bc5 hts
     have ngm:g≠m:=by obtain ⟨o,e⟩:=D2.some;exact g8 e hm
     have hm0:H m=none:=kb2.free hm ngm.symm;have D3:B7 (c9 H2 m (.lst (ts.map V.int))) g:=D2.upd ngm;have kb3:j5 g H (c9 H2 m (.lst (ts.map V.int))):=kb2.upd_r hm0;have h3m:(c9 H2 m (.lst (ts.map V.int))) m=some (.lst (ts.map V.int)):=c8;generalize (c9 H2 m (.lst (ts.map V.int)))=H3 at D3 kb3 h3m ⊢;refine ⟨_,rfl,g,rfl,D3,fun x1 H4 x10 D4 kb34=> ?_⟩;have h4m:=kb34 m _ h3m ngm.symm;have kb4:=kb3.trans kb34;refine ⟨_,_,rfl,rfl,(by show (0:Int) < 4;decide),rfl,_,rfl,?_⟩;refine aa0 (fun _=>⟨_,rfl,q m ts H4 hm0 hT hTl h4m D4 kb4⟩) (fun _=> ?_);refine ⟨_,rfl,g,rfl,D4,fun x2 H5 x20 D5 kb45=>⟨_,_,rfl,rfl,(by show (0:Int) < 4;decide),_,_,rfl,rfl,?_⟩⟩;refine ⟨_,rfl,g,rfl,D5,fun x3 H6 x30 D6 kb56=>⟨_,_,rfl,rfl,(by show (0:Int) < 6;decide),_,_,rfl,rfl,(by show 2<=sizeLine;decide),fun fw hfw=> ?_⟩⟩
     have ngf:g≠fw:=by obtain ⟨o,e⟩:=D6.some;exact g8 e hfw
     have f1:1<=1+x2%4/\1+x2%4<=4:=by omega
     have f2:1<=1+x3%6/\1+x3%6<=6:=by omega
     have kb6:=(kb4.trans kb45).trans kb56;have hfw0:H fw=none:=kb6.free hfw ngf.symm;have h6m:=kb56 m _ (kb45 m _ h4m ngm.symm) ngm.symm;have nmf:m≠fw:=g8 h6m hfw
     dsimp only
     generalize 1+x2%4=a1 at f1 ⊢;generalize 1+x3%6=a2 at f2 ⊢;have h7f:(c9 H6 fw (.lst [.int a1,.int a2])) fw=some (.lst [.int a1,.int a2]):=c8
     have h7m:(c9 H6 fw (.lst [.int a1,.int a2])) m=some (.lst (ts.map V.int)):=by rw[g7 nmf];exact h6m
     have D7:B7 (c9 H6 fw (.lst [.int a1,.int a2])) g:=D6.upd ngf;have kb7:j5 g H (c9 H6 fw (.lst [.int a1,.int a2])):=kb6.upd_r hfw0;generalize (c9 H6 fw (.lst [.int a1,.int a2]))=H7 at h7f h7m D7 kb7 ⊢;refine ⟨(by show 1<=sizeLine;decide),fun e he=> ?_⟩
     have nge:g≠e:=by obtain ⟨o,e'⟩:=D7.some;exact g8 e' he
     have he0:H e=none:=kb7.free he nge.symm;refine ⟨_,rfl,e,_,_,rfl,rfl,c8,by omega,by omega,by show 1*_<=sizeLine;rw[sizeLine_eq];omega,fun fo hfo=> ?_⟩;rw[show ((n:Nat):Int).toNat=n by omega,bd5]
     have hfe:fo≠e:=fun z=>by rw[z,c8] at hfo;cases hfo
     have hfo7:H7 fo=none:=by rw[g7 hfe] at hfo;exact hfo
     have ngo:g≠fo:=by obtain ⟨o,e'⟩:=D7.some;exact g8 e' hfo7
     have hfo0:H fo=none:=kb7.free hfo7 ngo.symm;have nmo:m≠fo:=g8 h7m hfo7;have nfo:fw≠fo:=g8 h7f hfo7;have s78:e8 H7 (c9 (c9 H7 e (.lst [.int 0])) fo (.lst ((ec3 n (0:Int)).map V.int))):=(e8.upd_new he).upd_r hfo7;have h8o:(c9 (c9 H7 e (.lst [.int 0])) fo (.lst ((ec3 n (0:Int)).map V.int))) fo=some (.lst ((ec3 n (0:Int)).map V.int)):=c8;generalize (c9 (c9 H7 e (.lst [.int 0])) fo (.lst ((ec3 n (0:Int)).map V.int)))=H8 at s78 h8o ⊢
     refine ⟨fun mm σ H9=>∃(fs qs:List Int) (k:Nat) (v7 v8:Option V),σ=[some (.ref g),some (.int (n:Int)),some (.ref l),some (.ref m),some (.ref fw),some (.ref fo),some (.int (k:Int)),v7,v8]/\k<=n/\H9 fo=some (.lst (fs.map V.int))/\H9 m=some (.lst (ts.map V.int))/\H9 fw=some (.lst [.int a1,.int a2])/\fs.length=ts.length/\qs.Perm (ts.take k)/\(ts.take k).map (G1 fs)=qs.map some/\B7 H9 g/\j5 g H H9/\mm=n - k,
       ⟨n,_,[],0,none,none,rfl,eb4 _,h8o,s78 m _ h7m,s78 fw _ h7f,by rw[ek4,hTl],List.Perm.refl _,rfl,D7.same s78,fun b o hb hn=>s78 b o (kb7 b o hb hn),by omega⟩,?_⟩
     rintro mm σ H9 ⟨fs,qs,k,v7,v8,rfl,hk,h9o,h9m,h9f,hfl,hq,hmap,D9,kb9,rfl⟩;refine ⟨_,rfl,_,rfl,_,_,rfl,rfl,_,rfl,?_⟩;refine aa0 (fun hlt=> ?_) (fun hge=> ?_)
     · have hlt:(k:Int) < (n:Int):=of_decide_eq_true hlt;refine ⟨fun σ' H'=>∃m',m' < n - k/\_,fun _ _ h=>h,?_⟩;refine ⟨_,rfl,_,rfl,g,rfl,D9,fun x4 H10 x40 D10 kb910=>⟨_,_,rfl,rfl,(by show (0:Int) < 2;decide),?_⟩⟩;have h10f:=kb910 fw _ h9f ngf.symm
       have key:∃av,atI [V.int a1,V.int a2] (x4%2)=some (.int av)/\1<=av:=by
         have:x4%2=0\/x4%2=1:=by omega
         rcases this with e|e
         · rw[e];exact ⟨a1,G9 (j:=0) rfl,f1.1⟩
         · rw[e];exact ⟨a2,G9 (j:=1) rfl,f2.1⟩
       obtain ⟨av,hat,av1⟩:=key;refine ⟨fw,_,_,_,rfl,rfl,h8.of h10f,hat,?_⟩;refine ⟨_,rfl,_,rfl,_,_,rfl,rfl,av,_,rfl,?_⟩
       have hL:∃L:Nat,(if ((n:Int) - (k:Int)) < av then ((n:Int) - (k:Int)) else av)=(L:Int)/\1<=L/\k+L<=n:=by
         split
         · exact ⟨n - k,by omega,by omega,by omega⟩
         · exact ⟨av.toNat,by omega,by omega,by omega⟩
       obtain ⟨L,eL,L1,kL⟩:=hL
       dsimp only
       rw[eL];have h10m:=kb910 m _ h9m ngm.symm;have h10o:=kb910 fo _ h9o ngo.symm;have kb10:=kb9.trans kb910
       have hLn:((L:Nat):Int).toNat=L:=by omega
       refine ⟨_,rfl,(L:Int),rfl,by omega,by omega,E3 (lo:=0) (n:=((L:Nat):Int).toNat) (fun j σ H11=>∃(fs':List Int) (v8':Option V),σ=[some (.ref g),some (.int (n:Int)),some (.ref l),some (.ref m),some (.ref fw),some (.ref fo),some (.int (k:Int)),some (.int (L:Int)),v8']/\H11 fo=some (.lst (fs'.map V.int))/\H11 m=some (.lst (ts.map V.int))/\H11 fw=some (.lst [.int a1,.int a2])/\fs'.length=ts.length/\(ts.take k).map (G1 fs')=qs.map some/\(∀u,u < j->G1 fs' (ts.getD (k+u) 0)=some (ts.getD (k+(u+1)%L) 0))/\B7 H11 g/\j5 g H H11)
         ⟨fs,v8,rfl,h10o,h10m,h10f,hfl,hmap,fun u hu=>by omega,D10,kb10⟩ ?_ ?_⟩
       · rintro j σ H11 hj ⟨fs',v8',rfl,h11o,h11m,h11f,hfl',hmap',hu',D11,kb11⟩
         have hjL:j < L:=by omega
         have hjm:(j+1)%L < L:=eh3 _ (by omega)
         have hi1:k+j < ts.length:=by omega
         have hi2:k+(j+1)%L < ts.length:=by omega
         have ej:(k:Int)+((0:Int)+(j:Int)+1)%(L:Int)=((k+(j+1)%L:Nat):Int):=by
           have e1:(0:Int)+(j:Int)+1=((j+1:Nat):Int):=by omega
           rw[e1,<-ei9];omega
         have hat1:atI (ts.map V.int) ((k:Int)+((0:Int)+(j:Int)+1)%(L:Int))=some (.int (ts.getD (k+(j+1)%L) 0)):=by
           rw[ej];have:=W0 (p:=ts) (i:=((k+(j+1)%L:Nat):Int)) (by omega) (by omega);rw[ee0] at this;exact this
         have hat2:atI (ts.map V.int) ((k:Int)+((0:Int)+(j:Int)))=some (.int (ts.getD (k+j) 0)):=by
           have e:(k:Int)+((0:Int)+(j:Int))=((k+j:Nat):Int):=by omega
           rw[e];have:=W0 (p:=ts) (i:=((k+j:Nat):Int)) (by omega) (by omega);rw[ee0] at this;exact this
         refine ⟨_,rfl,_,rfl,_,rfl,_,_,rfl,rfl,_,rfl,_,_,rfl,rfl,(by show (0:Int) < (L:Int);omega),_,_,rfl,rfl,m,_,_,_,rfl,rfl,h8.of h11m,hat1,?_⟩;refine ⟨_,rfl,_,rfl,_,rfl,_,rfl,_,_,rfl,rfl,m,_,_,_,rfl,rfl,h8.of h11m,hat2,?_⟩
         have htv:ts.getD (k+j) 0∈ts:=by rw[L8 hi1];exact ec6 hi1
         have t0:=hT.lo _ htv;have t1:=hT.hi _ htv;refine ⟨fo,_,_,(ts.getD (k+j) 0).toNat,rfl,rfl,h11o,?_,?_⟩
         · unfold ixN;rw[dz0,if_pos t0,if_pos (by omega)]
         have es:(fs'.map V.int).set (ts.getD (k+j) 0).toNat (.int (ts.getD (k+(j+1)%L) 0))=(fs'.set (ts.getD (k+j) 0).toNat (ts.getD (k+(j+1)%L) 0)).map V.int:=by rw[eq6]
         rw[es];refine ⟨_,_,rfl,c8,by rw[g7 nmo];exact h11m,by rw[g7 nfo];exact h11f,by rw[el9];exact hfl',?_,?_,D11.upd ngo,fun b o hb hnn=>by rw[g7 (g8 hb hfo0)];exact kb11 b o hb hnn⟩
         · rw[<-hmap']
           refine ef3 fun u hu=> ?_
           have hut:=ef0 hu
           refine ae0 (hT.lo u hut) t0 fun z=> ?_
           obtain ⟨jj,hjj⟩:=ec1.mp hu
           have hjk:jj < k:=by
             have:=(dz2.mp hjj).1;rw[eb2] at this;omega
           rw[ef8 hjk] at hjj;have:=(dz2.mp hjj).2;exact S0 hT.nd (i:=jj) (j:=k+j) (by omega) hi1 (by omega) (by rw[L8 (show jj < ts.length by omega),this];exact z)
         · intro u hu
           by_cases huj:u=j
           · subst huj;exact ah4 (by omega)
           · have huj':u < j:=by omega
             rw[ae0 (hT.lo _ (by rw[L8 (show k+u < ts.length by omega)];exact ec6 _)) t0 (S0 hT.nd (by omega) hi1 (by omega))];exact hu' u huj'
       · rintro σ H11 ⟨fs',v8',rfl,h11o,h11m,h11f,hfl',hmap',hu',D11,kb11⟩;rw[hLn] at hu';obtain ⟨qs',hq',hmap''⟩:=cw7 L1 (by omega) hmap' hq hu';refine ⟨_,rfl,_,rfl,_,_,rfl,rfl,n - (k+L),by omega,fs',qs',k+L,some (.int (L:Int)),v8',?_,kL,h11o,h11m,h11f,hfl',hq',hmap'',D11,kb11,rfl⟩;rw[show ((k+L:Nat):Int)=(k:Int)+(L:Int) by omega];rfl
     · have hge:¬(k:Int) < (n:Int):=fun z=>hge (decide_eq_true z)
       have hkl:k=ts.length:=by omega
       rw[hkl,ec4] at hq hmap;have pf:=(bh3 hT hfl hmap).trans (hq.trans hts);obtain ⟨hF,hFl⟩:=bc5 pf;exact ⟨_,rfl,q fo fs H9 hfo0 hF hFl h9o D9 kb9⟩
def spM:Sp:=fun vs H Q _=>∃(g:Addr),vs=[.ref g]/\B7 H g/\∀(m:Nat) (H':Hp),1<=m->m<=1000000000000000000000000000000->B7 H' g->j5 g H H'->Q (.int (m:Int)) H'
theorem scM:m9 ["deck","way","rest","k","found","prime"] ["deck"] (j7 bm5):=⟨rfl,rfl,rfl,by decide+kernel,rfl,by decide+kernel,by decide+kernel⟩
theorem cz2 {K:PySem.W.Frag}{a:Addr}{xs:List V}{g:TG}{tb:TS}{D:U3}{σ:St}{H:Hp}(Pv:Nat->St->Hp->Prop)(h0:Pv 0 σ H)(hl:∀i σ H,i<=xs.length->Pv i σ H->O3 K H a xs)
   (hs:∀i x σ H,xs[i]? =some x->Pv i σ H->g x σ H fun σ2 H2=>tb {D with nx:=Pv (i+1),ct:=Pv (i+1),bk:=D.nx} σ2 H2) (hd:∀σ H,Pv xs.length σ H->D.nx σ H):
   ∃W:Nat->Nat->St->Hp->Prop,(∃m,W 0 m σ H)/\∀i m σ H,W i m σ H->
    ((Itt K a).stop i H/\D.nx σ H)\/((Itt K a).go i H/\∃N:St->Hp->Prop,(∀σ' H',N σ' H'->∃m',m' < m/\W (i+1) m' σ' H')/\∀x H',(Itt K a).yld i H x H'->g x σ H' fun σ2 H2=>tb {D with nx:=N,ct:=N,bk:=D.nx} σ2 H2):=by
 refine ⟨fun i m σ H=>m=xs.length - i/\i<=xs.length/\Pv i σ H,⟨xs.length,by simp,eb4 _,h0⟩,?_⟩;rintro i m σ H ⟨rfl,hi,p⟩;have q:=hl i σ H hi p
 by_cases hlt:i < xs.length
 · refine .inr ⟨⟨xs,xs[i],q,by simp [hlt]⟩,Pv (i+1),fun σ' H' p'=>⟨xs.length - (i+1),by omega,rfl,hlt,p'⟩,fun x H' y=> ?_⟩;obtain ⟨e,y⟩:=y;subst e;exact hs i x σ _ (y xs q) p
 · have e:i=xs.length:=by omega
   subst e;exact .inl ⟨⟨xs,q,dz3 _⟩,hd σ H p⟩
theorem dx0 {f:Addr}{fd:FuncData}(F:C7 K "_law_m" "_law_m" bm5 f fd)(B:Bl mg)(cN:n0 P w K mg base "_law_next" 1 ["deck"] ap0):n6 P w K mg base E9 2 f fd ["deck"] spM:=by
 refine F.ok scM (fun vs H Q E h=> ?_) (fun cdv A outer s H vs Q E hr h=> ?_)
 · obtain ⟨g,rfl,_⟩:=h;rfl
 · obtain ⟨g,rfl,hD,q⟩:=h
   refine ⟨_,c7 (i4 (i:=1) scM.nd rfl (Or.inl rfl) (i7 C6 (i8 cN hr (c5 (pv 0) c6)) g9))
     (c7 (B5 (j8 aj9 (pv 1) g9 (n5 _)) (g6 (l8 (i7 E7 g9 (i7 C6 (i8 cN hr (c5 (pv 0) c6)) (J9 C5 (o8 (c5 g9 (c5 g9 c6))) (pv 1) (fun _ _=>rfl)))))) o4)
     (c7 (B5 (j8 ad0 (pv 1) g9 (n5 _)) (c7 (i4 (i:=2) scM.nd rfl (Or.inl rfl) g9) (c7 (o6 PassesOwn.never rfl (K3 (by rfl) B.range (c5 g9 c6)) (j6 (i:=3) scM.nd rfl (Or.inl rfl)) (g6 (i4 (i:=2) scM.nd rfl (Or.inl rfl) (i7 E7 (i7 O4 (pv 2) g9) (i8 cN hr (c5 (pv 0) c6))))))
         (g6 (l8 (i7 E7 g9 (i7 C6 (pv 2) (i7 V0 (i7 bu6 g9 g9) g9))))))) o4)
     (c7 (i4 (i:=4) scM.nd rfl (Or.inl rfl) g9)
     (c7 (o6 PassesOwn.never rfl (cm6 (ad8 (bd8 _ [2,2,2,3,3,5,7] (by decide+kernel)))) (j6 (i:=5) scM.nd rfl (Or.inl rfl)) (g6 (i4 (i:=4) scM.nd rfl (Or.inl rfl) (i7 O4 (pv 4) (J9 C5 (o8 (c5 g9 (c5 (pv 5) c6))) (i7 C6 (i8 cN hr (c5 (pv 0) c6)) g9) (fun _ _=>rfl))))))
     (c7 (B5 (j8 ad0 (pv 1) g9 (n5 _)) (g6 (o6 PassesOwn.never rfl (K3 (by rfl) B.range (c5 g9 c6)) (j6 (i:=3) scM.nd rfl (Or.inl rfl)) (g6 (i4 (i:=4) scM.nd rfl (Or.inl rfl) (i7 O4 (pv 4) (i7 E7 g9 (i7 C6 (i8 cN hr (c5 (pv 0) c6)) g9))))))) o4)
     (g6 (l8 (pv 4)))))))),?_⟩
   try dsimp only[x9,Cx.nox,Cx.wish]
   refine ⟨_,rfl,g,rfl,hD,fun x1 H1 x10 D1 kb1=>⟨_,_,rfl,rfl,(by show (0:Int) < 5;decide),?_⟩⟩
   dsimp only
   obtain ⟨wy,hwy⟩:∃wy,wy=x1%5:=⟨_,rfl⟩
   have w5:0<=wy/\wy < 5:=by omega
   refine ⟨_,rfl,_,_,rfl,rfl,_,rfl,?_⟩;refine aa0 (fun hw=> ?_) (fun hw=> ?_)
   · have hw:x1%5 < 2:=of_decide_eq_true hw;refine ⟨_,rfl,g,rfl,D1,fun x2 H2 x20 D2 kb2=> ?_⟩;refine ⟨(by show 2<=sizeLine;decide),fun e he=> ?_⟩
     have nge:g≠e:=by obtain ⟨o,e'⟩:=D2.some;exact g8 e' he
     have kb12:=kb1.trans kb2
     have key:∃av,atI [V.int 12,V.int 60] (x1%5)=some (.int av)/\1<=av/\av<=60:=by
       have:x1%5=0\/x1%5=1:=by omega
       rcases this with e|e
       · rw[e];exact ⟨12,G9 (j:=0) rfl,by decide,by decide⟩
       · rw[e];exact ⟨60,G9 (j:=1) rfl,by decide,by decide⟩
     obtain ⟨av,hat,av1,av2⟩:=key;refine ⟨_,rfl,e,_,_,_,rfl,rfl,h8.of c8,hat,_,_,rfl,rfl,(by show (0:Int) < av;omega),_,_,rfl,rfl,?_⟩;have b1:=ee6 x2 (show av≠0 by omega);have b2:=eh0 x2 (show 0 < av by omega)
     have em:(1:Int)+x2%av=(((1+x2%av).toNat:Nat):Int):=by omega
     dsimp only
     rw[em];exact q _ _ (by omega) (by omega) (D2.upd nge) (kb12.upd_r (kb12.free he nge.symm))
   · refine ⟨_,rfl,rfl,_,rfl,?_⟩;refine aa0 (fun hw4=> ?_) (fun hw4=> ?_)
     · refine ⟨6,rfl,by decide,by decide,E3 (lo:=0) (n:=6) (fun i σ H2=>∃(rest:Int) (v3 v4 v5:Option V),σ=[some (.ref g),some (.int (x1%5)),some (.int rest),v3,v4,v5]/\0<=rest/\B7 H2 g/\j5 g H H2)
         ⟨0,none,none,none,rfl,by decide,D1,kb1⟩ ?_ ?_⟩
       · rintro i σ H2 hi ⟨rest,v3,v4,v5,rfl,r0,D2,kb2⟩;refine ⟨_,rfl,_,_,rfl,rfl,.inr ⟨by decide,by decide⟩,_,rfl,g,rfl,D2,fun x2 H3 x20 D3 kb3=>⟨_,_,rfl,rfl,?_⟩⟩;exact ⟨rest*720720+x2,_,_,_,rfl,by omega,D3,kb2.trans kb3⟩
       · rintro σ H2 ⟨rest,v3,v4,v5,rfl,r0,D2,kb2⟩;refine ⟨_,rfl,_,_,rfl,rfl,⟨by decide,by decide,by decide⟩,_,_,rfl,rfl,_,_,rfl,rfl,(by show (0:Int) < 10^(30:Int).toNat - 1;decide),_,_,rfl,rfl,?_⟩
         have e30:(10:Int)^(30:Int).toNat=1000000000000000000000000000000:=by decide
         dsimp only
         rw[e30];have b1:=ee6 rest (show (1000000000000000000000000000000 - 1:Int)≠0 by decide);have b2:=eh0 rest (show (0:Int) < 1000000000000000000000000000000 - 1 by decide);generalize rest%(1000000000000000000000000000000 - 1)=z at b1 b2 ⊢
         have em:(1:Int)+z=(((1+z).toNat:Nat):Int):=by omega
         rw[em];exact q _ _ (by omega) (by omega) D2 kb2
     · refine ⟨(by show 7<=sizeLine;decide),fun tu htu=> ?_⟩
       have ngt:g≠tu:=by obtain ⟨o,e'⟩:=D1.some;exact g8 e' htu
       have htu0:H tu=none:=kb1.free htu ngt.symm;have h2t:(c9 H1 tu (.tup (([2,2,2,3,3,5,7]:List Int).map V.int))) tu=some (.tup (([2,2,2,3,3,5,7]:List Int).map V.int)):=c8;have D2:B7 (c9 H1 tu (.tup (([2,2,2,3,3,5,7]:List Int).map V.int))) g:=D1.upd ngt;have kb2:j5 g H (c9 H1 tu (.tup (([2,2,2,3,3,5,7]:List Int).map V.int))):=kb1.upd_r htu0;generalize (c9 H1 tu (.tup (([2,2,2,3,3,5,7]:List Int).map V.int)))=H2 at h2t D2 kb2 ⊢
       refine ⟨tu,rfl,⟨_,O3.of h2t⟩,cz2 (K:=K) (a:=tu) (xs:=([2,2,2,3,3,5,7]:List Int).map V.int) (fun i σ H3=>∃(fn:Nat) (v2 v3 v5:Option V),σ=[some (.ref g),some (.int (x1%5)),v2,v3,some (.int (fn:Int)),v5]/\1<=fn/\fn<=7^i/\B7 H3 g/\j5 g H H3/\H3 tu=some (.tup (([2,2,2,3,3,5,7]:List Int).map V.int)))
         ⟨1,none,none,none,rfl,by decide,by decide,D2,kb2,h2t⟩ (fun i σ H3 _ ⟨_,_,_,_,_,_,_,_,_,e⟩=>O3.of e) ?_ ?_⟩
       · rintro i y σ H3 hi ⟨fn,v2,v3,v5,rfl,f1,f7,D3,kb3,h3t⟩;obtain ⟨pz,hpz,rfl⟩:=O0 hi
         have pz7:1<=pz/\pz<=7:=by
           have:∀z∈([2,2,2,3,3,5,7]:List Int),1<=z/\z<=7:=by decide
           exact this pz (dz8 hpz)
         refine ⟨_,rfl,_,rfl,(by show 2<=sizeLine;decide),fun e he=> ?_⟩
         have nge:g≠e:=by obtain ⟨o,e'⟩:=D3.some;exact g8 e' he
         have nte:tu≠e:=g8 h3t he;refine ⟨_,rfl,g,rfl,D3.upd nge,fun x2 H4 x20 D4 kb4=>⟨_,_,rfl,rfl,(by show (0:Int) < 2;decide),?_⟩⟩;have h4e:=kb4 e _ c8 nge.symm
         have key:∃av:Nat,atI [V.int 1,V.int pz] (x2%2)=some (.int (av:Int))/\1<=av/\av<=7:=by
           have:x2%2=0\/x2%2=1:=by omega
           rcases this with e|e
           · rw[e];exact ⟨1,G9 (j:=0) rfl,by decide,by decide⟩
           · rw[e];refine ⟨pz.toNat,?_,by omega,by omega⟩
             have:((pz.toNat:Nat):Int)=pz:=by omega
             rw[this];exact G9 (j:=1) rfl
         obtain ⟨av,hat,av1,av7⟩:=key;refine ⟨e,_,_,_,rfl,rfl,h8.of h4e,hat,_,_,rfl,rfl,.inr ⟨by omega,by omega⟩,?_⟩;refine ⟨fn*av,v2,v3,some (.int pz),?_,eg7 f1 av1,?_,D4,fun b o hb hn=>kb4 b o ((kb3.upd_r (kb3.free he nge.symm)) b o hb hn) hn,kb4 tu _ (by rw[g7 nte];exact h3t) ngt.symm⟩
         · rw[ed4];rfl
         · rw[ek9];exact eg3 f7 av7
       · rintro σ H3 ⟨fn,v2,v3,v5,rfl,f1,f7,D3,kb3,h3t⟩;have f7:fn<=823543:=f7;refine ⟨_,rfl,rfl,_,rfl,?_⟩;refine aa0 (fun _=> ?_) (fun _=>⟨_,rfl,q fn H3 f1 (by omega) D3 kb3⟩)
         refine ⟨4,rfl,by decide,by decide,E3 (lo:=0) (n:=4) (fun i σ H4=>∃(fm:Nat) (v3:Option V),σ=[some (.ref g),some (.int (x1%5)),v2,v3,some (.int (fm:Int)),v5]/\1<=fm/\fm<=823543*720720^i/\B7 H4 g/\j5 g H H4)
           ⟨fn,v3,rfl,f1,by rw[ep3,ei6];exact f7,D3,kb3⟩ ?_ ?_⟩
         · rintro i σ H4 hi ⟨fm,v3,rfl,m1,mb,D4,kb4⟩;refine ⟨_,rfl,_,rfl,g,rfl,D4,fun x2 H5 x20 D5 kb5=>⟨_,_,rfl,rfl,(by show (0:Int) < 720720;decide),_,_,rfl,rfl,_,_,rfl,rfl,.inr ⟨by omega,by omega⟩,?_⟩⟩;refine ⟨fm*(1+x2%720720).toNat,some (.int ((0:Int)+(i:Int))),?_,eg7 m1 (by omega),?_,D5,kb4.trans kb5⟩
           · have e1:(((1+x2%720720).toNat:Nat):Int)=1+x2%720720:=by omega
             rw[ed4,e1];rfl
           · rw[ek9,<-eg1];exact eg3 mb (by omega)
         · rintro σ H4 ⟨fm,v3,rfl,m1,mb,D4,kb4⟩
           have e4:823543*720720^4<=1000000000000000000000000000000:=by decide
           exact ⟨_,rfl,q fm H4 m1 (ea4 mb e4) D4 kb4⟩
end
end My
namespace My
local macro_rules|`(tactic|omega)=>`(tactic|lia)
open PySem L2
section
theorem bj0 {A1 A2 A3 B:TS}{k:U3}{σ:St}{H:Hp}(h:let D:=k;let T3:=B;let T2:=t7 A3 T3;let T1:=t7 A2 T2;t7 A1 T1 D σ H):(t7 A1 (t7 A2 (t7 A3 B))) k σ H:=h
theorem db4 {A1 A2 A3 A4 B:TS}{k:U3}{σ:St}{H:Hp}(h:let D:=k;let T4:=B;let T3:=t7 A4 T4;let T2:=t7 A3 T3;let T1:=t7 A2 T2;t7 A1 T1 D σ H):(t7 A1 (t7 A2 (t7 A3 (t7 A4 B)))) k σ H:=h
theorem ck7 {A1 A2 A3 A4 A5 B:TS}{k:U3}{σ:St}{H:Hp}(h:let D:=k;let T5:=B;let T4:=t7 A5 T5;let T3:=t7 A4 T4;let T2:=t7 A3 T3;let T1:=t7 A2 T2;t7 A1 T1 D σ H):(t7 A1 (t7 A2 (t7 A3 (t7 A4 (t7 A5 B))))) k σ H:=h
theorem ck8 {A1 A2 A3 A4 A5 A6 B:TS}{k:U3}{σ:St}{H:Hp}(h:let D:=k;let T6:=B;let T5:=t7 A6 T6;let T4:=t7 A5 T5;let T3:=t7 A4 T4;let T2:=t7 A3 T3;let T1:=t7 A2 T2;t7 A1 T1 D σ H):(t7 A1 (t7 A2 (t7 A3 (t7 A4 (t7 A5 (t7 A6 B)))))) k σ H:=h
theorem ds2 {A1 A2 A3 A4 A5 A6 A7 A8 A9 B:TS}{k:U3}{σ:St}{H:Hp}(h:let D:=k;let T9:=B;let T8:=t7 A9 T9;let T7:=t7 A8 T8;let T6:=t7 A7 T7;let T5:=t7 A6 T6;let T4:=t7 A5 T5;let T3:=t7 A4 T4;let T2:=t7 A3 T3;let T1:=t7 A2 T2;t7 A1 T1 D σ H):(t7 A1 (t7 A2 (t7 A3 (t7 A4 (t7 A5 (t7 A6 (t7 A7 (t7 A8 (t7 A9 B))))))))) k σ H:=h
end
end My
namespace My
local macro_rules|`(tactic|omega)=>`(tactic|lia)
open PySem L2 Mth
section
variable {P:Program} {w:World} {K:PySem.W.Frag} {mg:Str->Option Value} {base:Heap}
theorem P6:m9 ["p","met","found","thing","one"] ["p"] (j7 ai4):=⟨rfl,rfl,rfl,by decide+kernel,rfl,by decide+kernel,by decide+kernel⟩
theorem bs4 {f:Addr}{fd:FuncData}(F:C7 K "_law_rounds" "_law_rounds" ai4 f fd)(B:Bl mg):n6 P w K mg base E9 1 f fd ["p"] Z5:=by
 refine F.ok P6 (fun vs H Q E h=> ?_) (fun cdv A outer s H vs Q E hr h=> ?_)
 · obtain ⟨a,p,rfl,⟨ha,tp,lp⟩,q⟩:=h;rfl
 · obtain ⟨a,p,rfl,⟨ha,tp,lp⟩,q⟩:=h;have hu:=P9 hr;refine ⟨_,@c7 _ _ _ _ _ (@i4 _ _ (1) _ _ _ _ P6.nd rfl (Or.inl rfl) (@Y3 _ _) (by rfl) (by first|exact .inl rfl|exact .inr rfl|assumption)) (@c7 _ _ _ _ _ (@i4 _ _ (2) _ _ _ _ P6.nd rfl (Or.inl rfl) (@o8 _ _ _ _ (@c6 _)) (by rfl) (by first|exact .inl rfl|exact .inr rfl|assumption)) (@c7 _ _ _ _ _ (@o6 _ _ _ _ _ _ _ _ PassesOwn.never rfl (@K3 _ _ _ _ _ _ (by rfl) B.range (@c5 _ _ _ _ _ (@x6 _ _ _ _ _ B.len (@c5 _ _ _ _ _ (pv 0) (@c6 _) (by rfl)) (by rfl) (by rfl)) (@c6 _) (by rfl)) (by rfl)) (@j6 _ _ (3) _ P6.nd rfl (Or.inl rfl) (by first|exact .inl rfl|exact .inr rfl|assumption)) (@g6 _ _ _ (@B5 _ _ _ _ _ _ _ _ (@bg3 _ _ _ _ _ _ (@aw2 _ _ _ _ _ hu (pv 3) (pv 1)) (by first|exact nobehind _ (by decide) (by decide)|rfl)) (@c7 _ _ _ _ _ (@i4 _ _ (4) _ _ _ _ P6.nd rfl (Or.inl rfl) (@o8 _ _ _ _ (@c6 _)) (by rfl) (by first|exact .inl rfl|exact .inr rfl|assumption)) (@c7 _ _ _ _ _ (@ab2 _ _ _ _ _ _ PassesOwn.never (@bg3 _ _ _ _ _ _ (@aw2 _ _ _ _ _ hu (pv 3) (pv 1)) (by first|exact nobehind _ (by decide) (by decide)|rfl)) (@c7 _ _ _ _ _ (@an6 _ _ _ _ _ _ _ _ _ hu (pv 1) (pv 3) (@Q3 _ _ _ _) rfl) (@c7 _ _ _ _ _ (@y6 _ _ _ _ (@E4 _ _ _ _ _ _ _ (pv 4) (@c5 _ _ _ _ _ (pv 3) (@c6 _) (by rfl)) (by rfl) (by rfl) (by rfl) (by rfl) (by rfl)) (by rfl)) (@g6 _ _ _ (@i4 _ _ (3) _ _ _ _ P6.nd rfl (Or.inl rfl) (@J9 _ _ _ _ _ _ _ C5 (pv 0) (pv 3) (fun _ _=>rfl)) (by rfl) (by first|exact .inl rfl|exact .inr rfl|assumption)))))) (@g6 _ _ _ (@y6 _ _ _ _ (@E4 _ _ _ _ _ _ _ (pv 2) (@c5 _ _ _ _ _ (pv 4) (@c6 _) (by rfl)) (by rfl) (by rfl) (by rfl) (by rfl) (by rfl)) (by rfl))))) (@o4 _))) (by intro _;rfl)) (@g6 _ _ _ (@l8 _ _ _ _ (pv 2))))),?_⟩;refine bj0 ?_;intros
   try dsimp only[x9,Cx.nox,Cx.wish]
   intro d hd;have nad:a≠d:=g8 ha hd;have s1:e8 H (c9 H d (.dK [])):=e8.upd_new hd;have h1d:(c9 H d (.dK [])) d=some (.dK []):=c8;generalize (c9 H d (.dK []))=H1 at s1 h1d ⊢;refine ⟨eb4 _,fun l hl=> ?_⟩;have ndl:d≠l:=g8 h1d hl;have hl0:H l=none:=s1.free hl;have s2:e8 H (c9 H1 l (.lst [])):=s1.upd_r hl0;have h2l:(c9 H1 l (.lst [])) l=some (.lst []):=c8
   have h2d:(c9 H1 l (.lst [])) d=some (.dK []):=by rw[g7 ndl];exact h1d
   generalize (c9 H1 l (.lst []))=H2 at s2 h2l h2d ⊢;refine ⟨_,rfl,a,_,rfl,.inl (h8.of (s2 a _ ha)),(p.length:Int),?_,by omega,by omega,?_⟩
   · rw[dz0]
   rw[show ((p.length:Int)).toNat=p.length by omega]
   refine E3 (lo:=0) (n:=p.length) (fun i σ H3=>∃(as:List Addr) (rs:List (List Int)) (v3 v4:Option V),σ=[some (.ref a),some (.ref d),some (.ref l),v3,v4]/\H3 l=some (.lst (as.map V.ref))/\H3 d=some (.dK (M4 rs.flatten))/\o3 H3 as rs/\I0 p i rs/\e8 H H3/\(∀b∈as,H b=none)/\as.Nodup/\l∉as)
     ⟨[],[],none,none,rfl,h2l,h2d,⟨rfl,fun j b r h=>by simp at h⟩,ar3 p,s2,fun b hb=>by simp at hb,ef6,by simp⟩ ?_ ?_
   · rintro i σ H3 hi ⟨as,rs,v3,v4,rfl,h3l,h3d,rows,up,s3,fa,nda,nla⟩;have hx:In p (i:Int):=⟨by omega,by omega⟩
     have e0:(0:Int)+(i:Int)=(i:Int):=by omega
     rw[e0];refine ⟨_,rfl,_,rfl,d,_,rfl,W9.k (k:=Sum.inl (i:Int)) h3d,_,rfl,?_⟩
     by_cases hm:(i:Int)∈rs.flatten
     · rw[ar1 hm];refine C0 ?_;exact ⟨as,rs,_,_,rfl,h3l,h3d,rows,ar4 up hm,s3,fa,nda,nla⟩
     · rw[ah3 hm];refine L9 ?_;obtain ⟨L,pr⟩:=ax0 tp hx;have fr:=al5 up pr hm;have fl:=aa5 tp up;have cl:=ac7 up;have lenas:=rows.1
       have lL:=N9 tp hx (m:=L) fun j j0 j1=>pr.least j j0 j1
       refine ⟨eb4 _,fun e he=> ?_⟩;have nle:l≠e:=g8 h3l he;have nde:d≠e:=g8 h3d he;have he0:H e=none:=s3.free he;have h4e:(c9 H3 e (.lst [])) e=some (.lst ((j9 p i 0).map V.int)):=c8
       have h4d:(c9 H3 e (.lst [])) d=some (.dK (M4 (rs.flatten++j9 p i 0))):=by rw[g7 nde,h3d];unfold j9;rw[List.range_zero,em6,eb8]
       have k4:∀b o,H3 b=some o->b≠d->(c9 H3 e (.lst [])) b=some o:=fun b o hb _=>by rw[g7 (g8 hb he)];exact hb
       generalize (c9 H3 e (.lst []))=H4 at h4e h4d k4 ⊢
       refine bd3 (fun σ H5=>∃j:Nat,j<=L/\σ=[some (.ref a),some (.ref d),some (.ref l),some (.int (it p j i)),some (.ref e)]/\H5 e=some (.lst ((j9 p i j).map V.int))/\H5 d=some (.dK (M4 (rs.flatten++j9 p i j)))/\(∀b o,H3 b=some o->b≠d->H5 b=some o)) (fun _ H5=>L - bt6 H5 e)
         ⟨0,eb4 _,rfl,h4e,h4d,k4⟩ ?_ ?_
       · rintro σ H5 ⟨j,jL,rfl,h5e,h5d,k5⟩;refine ⟨_,rfl,_,rfl,d,_,rfl,W9.k (k:=Sum.inl (it p j i)) h5d,_,rfl,?_⟩
         by_cases hj:j=L
         · subst hj;rw[ar1 (show it p j i∈rs.flatten++j9 p i j by rw[pr.back];exact ea9 _ (J3.mpr ⟨0,pr.pos,rfl⟩))];refine C0 ?_;have h5l:=k5 l _ h3l ndl.symm;refine ⟨_,rfl,.inl ⟨rfl,_,h8.of h5l⟩,_,rfl,l,_,_,rfl,rfl,h5l,x8 (by rw[dz0,lenas];omega),?_⟩
           have es:as.map V.ref++[V.ref e]=(as++[e]).map V.ref:=by rw[dz6];rfl
           rw[es]
           have nad:∀b∈as,b≠d/\b≠l:=fun b hb=>by
             obtain ⟨r,hr'⟩:=Y9 rows hb;exact ⟨ci3 hr' h3d (by intro z;cases z),fun z=>nla (z▸hb)⟩
           refine ⟨as++[e],rs++[j9 p i j],_,_,rfl,c8,?_,?_,ar5 tp up hx pr hm,?_,?_,?_,?_⟩
           · rw[g7 ndl,h5d,eg6,eh1]
           · refine R9 (B6 rows fun b hb o ho=> ?_) ?_
             · rw[g7 (nad b hb).2];exact k5 b o ho (nad b hb).1
             · rw[g7 nle.symm];exact h5e
           · intro b o hb;rw[g7 (g8 hb hl0)];exact k5 b o (s3 b o hb) (g8 hb hd)
           · intro b hb
             rcases ea3.mp hb with g|g
             · exact fa b g
             · have:b=e:=by simpa using g
               rw[this];exact he0
           · refine an7 nda fun g=> ?_
             obtain ⟨r,hr'⟩:=Y9 rows g;rw[he] at hr';cases hr'
           · intro g
             rcases ea3.mp g with g|g
             · exact nla g
             · exact nle (by simpa using g)
         · have hjL:j < L:=by omega
           have nm:it p j i∉rs.flatten++j9 p i j:=fun g=>by
             rcases ea3.mp g with g|g
             · exact fr _ (J3.mpr ⟨j,hjL,rfl⟩) g
             · obtain ⟨b,hb,e1⟩:=J3.mp g
               have e2:j=(j - b)+b:=by omega
               rw[e2,J2] at e1;have:=aw7 tp (P0 tp hx (j - b)) hx b (by rw[<-J2,eh2,J2];exact e1);exact pr.least (j - b) (by omega) (by omega) this
           rw[ah3 nm];refine L9 ?_;refine ⟨_,rfl,_,rfl,d,_,rfl,aq7.k (k:=Sum.inl (it p j i)) h5d (x8 (by unfold M4;rw[dz0,dz9,o7];omega)),?_⟩;rw[aw6 nm]
           have h6d:(c9 H5 d (.dK (M4 (rs.flatten++j9 p i j++[it p j i])))) d=some (.dK (M4 (rs.flatten++j9 p i (j+1)))):=by rw[c8,ar2,eb3]
           have h6e:(c9 H5 d (.dK (M4 (rs.flatten++j9 p i j++[it p j i])))) e=some (.lst ((j9 p i j).map V.int)):=by rw[g7 nde.symm];exact h5e
           have k6:∀b o,H3 b=some o->b≠d->(c9 H5 d (.dK (M4 (rs.flatten++j9 p i j++[it p j i])))) b=some o:=fun b o hb hn=>by rw[g7 hn];exact k5 b o hb hn
           generalize (c9 H5 d (.dK (M4 (rs.flatten++j9 p i j++[it p j i]))))=H6 at h6d h6e k6 ⊢;refine ⟨_,rfl,.inl ⟨rfl,_,h8.of h6e⟩,_,rfl,e,_,_,rfl,rfl,h6e,x8 (by rw[dz0,o7];omega),?_⟩;have hin:=P0 tp hx j;have nae:a≠e:=g8 (s3 a _ ha) he;refine ⟨_,rfl,_,rfl,a,_,_,_,rfl,rfl,h8.of (by rw[g7 nae];exact k6 a _ (s3 a _ ha) nad),W0 hin.1 hin.2,?_⟩
           have h7e:(c9 H6 e (.lst ((j9 p i j).map V.int++[.int (it p j i)]))) e=some (.lst ((j9 p i (j+1)).map V.int)):=by
             rw[c8,ar2,dz6];rfl
           refine ⟨⟨j+1,by omega,rfl,h7e,by rw[g7 nde];exact h6d,fun b o hb hn=> ?_⟩,?_⟩
           · rw[g7 (g8 hb he)];exact k6 b o hb hn
           · rw[at3 h7e,at3 h5e,dz0,dz0,o7,o7];omega
       · rintro σ H5 Q Q' hq ⟨v,hv,u,hu',dd,rr,e1,g,c,e2,e3⟩;exact ⟨v,hv,u,hu',dd,rr,e1,g,c,e2,hq _ _ e3⟩
   · rintro σ H3 ⟨as,rs,v3,v4,rfl,h3l,h3d,rows,up,s3,fa,nda,nla⟩;exact ⟨_,rfl,q l as rs H3 hl0 s3 h3l rows up fa nda nla⟩
end
end My
namespace My
local macro_rules|`(tactic|omega)=>`(tactic|lia)
open PySem L2 Mth
section
variable {P:Program} {w:World} {K:PySem.W.Frag} {mg:Str->Option Value} {base:Heap}
theorem aa6:m9 ["p","m","found","one","k"] ["p","m"] (j7 am0):=⟨rfl,rfl,rfl,by decide+kernel,rfl,by decide+kernel,by decide+kernel⟩
theorem bz6 {f:Addr}{fd:FuncData}(F:C7 K "_law_power" "_law_power" am0 f fd)(B:Bl mg)(c_law_rounds:n0 P w K mg base "_law_rounds" 1 ["p"] Z5):n6 P w K mg base E9 2 f fd ["p","m"] bb0:=by
 refine F.ok aa6 (fun vs H Q E h=> ?_) (fun cdv A outer s H vs Q E hr h=> ?_)
 · obtain ⟨a,p,k,rfl,⟨ha,tp,lp⟩,q⟩:=h;rfl
 · obtain ⟨a,p,k,rfl,⟨ha,tp,lp⟩,q⟩:=h;have hr_law_rounds:l9 1 _:=hr.mono (by decide);refine ⟨_,@c7 _ _ _ _ _ (@i4 _ _ (2) _ _ _ _ aa6.nd rfl (Or.inl rfl) (@i7 _ _ _ _ _ _ _ _ bg9 (@o8 _ _ _ _ (@c5 _ _ _ _ _ (@g9 _ _ _ _) (@c6 _) (by rfl))) (@x6 _ _ _ _ _ B.len (@c5 _ _ _ _ _ (pv 0) (@c6 _) (by rfl)) (by rfl) (by rfl))) (by rfl) (by first|exact .inl rfl|exact .inr rfl|assumption)) (@c7 _ _ _ _ _ (@o6 _ _ _ _ _ _ _ _ PassesOwn.never rfl (@G8 _ _ _ _ (@i8 _ _ _ _ _ _ _ _ _ _ c_law_rounds hr_law_rounds (@c5 _ _ _ _ _ (pv 0) (@c6 _) (by rfl)) (by rfl) (by decide) (by rfl) (by rfl))) (@j6 _ _ (3) _ aa6.nd rfl (Or.inl rfl) (by first|exact .inl rfl|exact .inr rfl|assumption)) (@g6 _ _ _ (@o6 _ _ _ _ _ _ _ _ PassesOwn.never rfl (@K3 _ _ _ _ _ _ (by rfl) B.range (@c5 _ _ _ _ _ (@x6 _ _ _ _ _ B.len (@c5 _ _ _ _ _ (pv 3) (@c6 _) (by rfl)) (by rfl) (by rfl)) (@c6 _) (by rfl)) (by rfl)) (@j6 _ _ (4) _ aa6.nd rfl (Or.inl rfl) (by first|exact .inl rfl|exact .inr rfl|assumption)) (@g6 _ _ _ (@an1 _ _ _ _ _ _ (@J9 _ _ _ _ _ _ _ C5 (pv 3) (@i7 _ _ _ _ _ _ _ _ C6 (@i7 _ _ _ _ _ _ _ _ E7 (pv 4) (pv 1)) (@x6 _ _ _ _ _ B.len (@c5 _ _ _ _ _ (pv 3) (@c6 _) (by rfl)) (by rfl) (by rfl))) (fun _ _=>rfl)) (@av8 _ _ _ _ _ _ _ (pv 2) (@J9 _ _ _ _ _ _ _ C5 (pv 3) (pv 4) (fun _ _=>rfl)) ah0 (by intro _;rfl)) (by rfl) (by rfl) (by rfl))) (by intro _;rfl))) (by intro _;rfl)) (@g6 _ _ _ (@l8 _ _ _ _ (pv 2)))),?_⟩
   try dsimp only[x9,Cx.nox,Cx.wish]
   refine ⟨(by show 1<=sizeLine;decide),fun z0 hz0=> ?_⟩;have s1:e8 H (c9 H z0 (.lst [.int 0])):=e8.upd_new hz0;have h1z:(c9 H z0 (.lst [.int 0])) z0=some (.lst [.int 0]):=c8;generalize (c9 H z0 (.lst [.int 0]))=H1 at s1 h1z ⊢;refine ⟨_,rfl,a,_,rfl,.inl (h8.of (s1 a _ ha)),z0,_,_,rfl,rfl,h1z,by rw[dz0];omega,by rw[dz0];omega,by rw[dz0];show 1*_<=_;rw[sizeLine_eq];omega,fun l hl=> ?_⟩;have hl0:H l=none:=s1.free hl
   have erep:(ec3 ((((p.map V.int).length:Nat):Int)).toNat [V.int 0]).flatten=(ec3 p.length (0:Int)).map V.int:=by
     rw[dz0,show ((p.length:Int)).toNat=p.length by omega];exact bd5 _
   rw[erep];have s2:e8 H (c9 H1 l (.lst ((ec3 p.length (0:Int)).map V.int))):=s1.upd_r hl0;have h2l:(c9 H1 l (.lst ((ec3 p.length (0:Int)).map V.int))) l=some (.lst ((ec3 p.length (0:Int)).map V.int)):=c8;generalize (c9 H1 l (.lst ((ec3 p.length (0:Int)).map V.int)))=H2 at s2 h2l ⊢;refine ⟨_,rfl,a,p,rfl,⟨s2 a _ ha,tp,lp⟩,fun g as rs H3 hg s23 h3g rows up fa nda nga=> ?_⟩;have h3l:=s23 l _ h2l
   have ngl:g≠l:=fun z=>by rw[z,h2l] at hg;cases hg
   refine ⟨g,rfl,⟨_,h8.of h3g⟩,K1 (K:=K) (a:=g) (xs:=as.map V.ref) (fun i σ H4=>∃(ts:List Int) (v3 v4:Option V),σ=[some (.ref a),some (.int k),some (.ref l),v3,v4]/\H4 l=some (.lst (ts.map V.int))/\ts.length=p.length/\(∀x∈(rs.take i).flatten,∃L,K7 p x L/\G1 ts x=some (it p (k%(L:Int)).toNat x))/\j5 l H3 H4)
     ⟨_,none,none,rfl,h3l,ek4,fun x hx=>by simp at hx,j5.refl l H3⟩ (fun i σ H4 _ ⟨_,_,_,_,_,_,_,kb⟩=>h8.of (kb g _ h3g ngl)) ?_ ?_⟩
   · rintro i y σ H4 hi ⟨ts,v3,v4,rfl,h4l,hl4,hx4,kb⟩;rw[dz4] at hi
     cases hai:as[i]? with
     |none=>rw[hai] at hi;cases hi
     |some e=>
      rw[hai] at hi;cases hi;have hil:i < as.length:=(dz2.mp hai).1;have hri:rs[i]? =some (rs[i]'(by rw[<-rows.1];exact hil)):=dz1 _;generalize hR:rs[i]'(by rw[<-rows.1];exact hil)=R at hri;have h3e:=rows.2 i e R hai hri;have hRm:R∈rs:=dz8 hri;obtain ⟨x,L,hx,pr,eR,_⟩:=up.ring R hRm
      have nle:l≠e:=fun z=>by have:=fa e (dz8 hai);rw[<-z,h2l] at this;cases this
      have h4e:=kb e _ h3e nle.symm
      have lR:R.length=L:=by rw[eR,o7]
      have Lp:=pr.pos
      have lL:=N9 tp hx (m:=L) fun j j0 j1=>pr.least j j0 j1
      have ndR:R.Nodup:=by rw[eR];exact X4 tp hx fun j j0 j1=>pr.least j j0 j1
      have bdR:∀y∈R,0<=y/\y < p.length:=fun y hy=>by rw[eR] at hy;exact ab8 tp hx y hy
      refine ⟨_,rfl,e,_,rfl,.inl (h8.of h4e),(L:Int),by rw[dz0,lR],by omega,by omega,?_⟩;rw[show ((L:Int)).toNat=L by omega]
      refine E3 (lo:=0) (n:=L) (fun j σ H5=>∃(ts':List Int) (v4:Option V),σ=[some (.ref a),some (.int k),some (.ref l),some (.ref e),v4]/\H5 l=some (.lst (ts'.map V.int))/\ts'.length=p.length/\(∀c,c < j->G1 ts' (R.getD c 0)=some (R.getD (((c:Int)+k)%(R.length:Int)).toNat 0))/\(∀u,0<=u->u∉R->G1 ts' u=G1 ts u)/\j5 l H4 H5)
        ⟨ts,v4,rfl,h4l,hl4,fun j hj=>by omega,fun u _ _=>rfl,j5.refl l H4⟩ ?_ ?_
      · rintro j σ H5 hj ⟨ts',v4,rfl,h5l,hl5,hc,hu',kb5⟩;have h5e:=kb5 e _ h4e nle.symm
        have e0:(0:Int)+(j:Int)=(j:Int):=by omega
        rw[e0];have m0:=ee6 ((j:Int)+k) (show (R.length:Int)≠0 by omega);have m1:=eh0 ((j:Int)+k) (show (0:Int) < (R.length:Int) by omega);refine ⟨_,rfl,_,rfl,_,rfl,_,_,rfl,rfl,_,rfl,e,_,rfl,.inl (h8.of h5e),?_⟩;rw[dz0];refine ⟨_,_,rfl,rfl,(by show (0:Int) < (R.length:Int);omega),e,_,_,_,rfl,rfl,h8.of h5e,W0 m0 m1,?_⟩
        have hzi:R.getD j 0∈R:=by rw[L8 (show j < R.length by omega)];exact ec6 _
        obtain ⟨z0,z1⟩:=bdR _ hzi;refine ⟨_,rfl,_,rfl,_,rfl,e,_,_,_,rfl,rfl,h8.of h5e,W0 (by omega) (by omega),l,_,_,(R.getD j 0).toNat,rfl,rfl,h5l,?_,?_⟩
        · unfold ixN;rw[dz0,show ((j:Int)).toNat=j by omega,if_pos z0,if_pos (by omega)]
        have es:(ts'.map V.int).set (R.getD j 0).toNat (.int (R.getD (((j:Int)+k)%(R.length:Int)).toNat 0))=(ts'.set (R.getD j 0).toNat (R.getD (((j:Int)+k)%(R.length:Int)).toNat 0)).map V.int:=by rw[eq6]
        rw[es];refine ⟨_,_,rfl,c8,by rw[el9];exact hl5,fun c hcj=> ?_,fun u u0 un=> ?_,fun b o hb hn=> ?_⟩
        · by_cases e:c=j
          · subst e;rw[ah4 (by omega)]
          · have:R.getD c 0≠R.getD j 0:=S0 ndR (by omega) (by omega) e;rw[ae0 (bdR _ (by rw[L8 (show c < R.length by omega)];exact ec6 _)).1 z0 this];exact hc c (by omega)
        · rw[ae0 u0 z0 (fun e=>un (e▸hzi))];exact hu' u u0 un
        · rw[g7 hn];exact kb5 b o hb hn
      · rintro σ H5 ⟨ts',v4,rfl,h5l,hl5,hj,hu',kb5⟩;refine ⟨ts',_,_,rfl,h5l,hl5,fun y hy=> ?_,kb.trans kb5⟩;rw[l6 hri,eg6,eh1] at hy
        by_cases hyR:y∈R
        · rw[eR] at hyR;obtain ⟨j,hjL,rfl⟩:=J3.mp hyR;refine ⟨L,pr.shift tp hx j,?_⟩;have:=hj j hjL;rw[lR] at this;have b0:=ee6 ((j:Int)+k) (show (L:Int)≠0 by omega);have b1:=eh0 ((j:Int)+k) (show (0:Int) < (L:Int) by omega);rw[eR,W1 hjL,W1 (by omega),cj8 pr] at this;exact this
        · rcases ea3.mp hy with g'|g'
          · obtain ⟨M,pm,em⟩:=hx4 y g';refine ⟨M,pm,?_⟩
            have y0:0<=y:=by
              obtain ⟨r,hr',hyr⟩:=ec9.mp g';obtain ⟨x',L',hx',_,er,_⟩:=up.ring r (ef0 hr');rw[er] at hyr;exact (ab8 tp hx' y hyr).1
            rw[hu' y y0 hyR];exact em
          · exact absurd g' hyR
   · rintro σ H4 ⟨ts,v3,v4,rfl,h4l,hl4,hx4,kb⟩;rw[dz0,rows.1,ec4] at hx4;refine ⟨_,rfl,q l ts H4 hl0 (fun b o hb=>kb b o (s23 b o (s2 b o hb)) (g8 hb hl0)) ⟨hl4,fun x hx=>hx4 x (up.all x hx.1 hx.2)⟩ h4l⟩
end
end My
namespace My
local macro_rules|`(tactic|omega)=>`(tactic|lia)
open PySem L2 Mth
section
variable {P:Program} {w:World} {K:PySem.W.Frag} {mg:Str->Option Value} {base:Heap}
structure db5 (H:Hp)(d:Addr)(rs:List (List Int))(kvs:List (o9×V))(ns:List Int):Prop where
 at_:H d=some (.dK kvs)
 keys:KI kvs ns
 nd:ns.Nodup
 val:∀l:Nat,(l:Int)∈ns->C9 kvs (Sum.inl (l:Int):o9)=some (.int ((w6 rs l:Nat):Int))
 all:∀z:Int,z∈ns↔∃r∈rs,z=(r.length:Int)
theorem cz3 {p:List Int}(tp:y7 p){i:Nat}{rs:List (List Int)}(up:I0 p i rs):∀r∈rs,1<=r.length/\r.length<=p.length:=fun r hr=>by
 obtain ⟨y,L,hy,pr,er,_⟩:=up.ring r hr
 have b:=N9 tp hy (m:=L) fun i i0 i1=>pr.least i i0 i1
 have:=pr.pos;rw[er,o7];omega
def be4:Sp:=fun vs H Q _=>∃(a:Addr) (p:List Int),vs=[.ref a]/\C3 H a p/\∀(d:Addr) (kvs:List (o9×V)) (ns:List Int) (H':Hp),H d=none->e8 H H'->db5 H' d (q9 p p.length) kvs ns->(∀z∈ns,1<=z/\z<=40)->ns.length<=40->Q (.ref d) H'
theorem af3:m9 ["p","found","one"] ["p"] (j7 ai5):=⟨rfl,rfl,rfl,by decide+kernel,rfl,by decide+kernel,by decide+kernel⟩
theorem bs5 {f:Addr}{fd:FuncData}(F:C7 K "_law_counts" "_law_counts" ai5 f fd)(B:Bl mg)(c_law_rounds:n0 P w K mg base "_law_rounds" 1 ["p"] Z5):n6 P w K mg base E9 2 f fd ["p"] be4:=by
 refine F.ok af3 (fun vs H Q E h=> ?_) (fun cdv A outer s H vs Q E hr h=> ?_)
 · obtain ⟨a,p,rfl,⟨ha,tp,lp⟩,q⟩:=h;rfl
 · obtain ⟨a,p,rfl,⟨ha,tp,lp⟩,q⟩:=h;have hr_law_rounds:l9 1 _:=hr.mono (by decide);have hu:=P9 hr;refine ⟨_,@c7 _ _ _ _ _ (@i4 _ _ (1) _ _ _ _ af3.nd rfl (Or.inl rfl) (@Y3 _ _) (by rfl) (by first|exact .inl rfl|exact .inr rfl|assumption)) (@c7 _ _ _ _ _ (@o6 _ _ _ _ _ _ _ _ PassesOwn.never rfl (@G8 _ _ _ _ (@i8 _ _ _ _ _ _ _ _ _ _ c_law_rounds hr_law_rounds (@c5 _ _ _ _ _ (pv 0) (@c6 _) (by rfl)) (by rfl) (by decide) (by rfl) (by rfl))) (@j6 _ _ (2) _ af3.nd rfl (Or.inl rfl) (by first|exact .inl rfl|exact .inr rfl|assumption)) (@g6 _ _ _ (@an6 _ _ _ _ _ _ _ _ _ hu (pv 1) (@x6 _ _ _ _ _ B.len (@c5 _ _ _ _ _ (pv 2) (@c6 _) (by rfl)) (by rfl) (by rfl)) (@i7 _ _ _ _ _ _ _ _ E7 (@cv8 _ _ _ _ _ _ _ _ _ hu (pv 1) (@x6 _ _ _ _ _ B.len (@c5 _ _ _ _ _ (pv 2) (@c6 _) (by rfl)) (by rfl) (by rfl)) (@g9 _ _ _ _) ⟨by rfl,by rfl,by rfl,by rfl⟩) (@g9 _ _ _ _)) rfl)) (by intro _;rfl)) (@g6 _ _ _ (@l8 _ _ _ _ (pv 1)))),?_⟩
   try dsimp only[x9,Cx.nox,Cx.wish]
   intro d hd;have s1:e8 H (c9 H d (.dK [])):=e8.upd_new hd;have h1d:(c9 H d (.dK [])) d=some (.dK []):=c8;generalize (c9 H d (.dK []))=H1 at s1 h1d ⊢;refine ⟨_,rfl,a,p,rfl,⟨s1 a _ ha,tp,lp⟩,fun g as rs H3 hg s13 h3g rows up fa nda nga=> ?_⟩;have h3d:=s13 d _ h1d
   have ngd:g≠d:=fun z=>by rw[z,h1d] at hg;cases hg
   have lrs:=rows.1;have cl:=ac7 up;have fl:=aa5 tp up
   refine ⟨g,rfl,⟨_,h8.of h3g⟩,K1 (K:=K) (a:=g) (xs:=as.map V.ref) (fun i σ H4=>∃(kvs:List (o9×V)) (ns:List Int) (v2:Option V),σ=[some (.ref a),some (.ref d),v2]/\db5 H4 d (rs.take i) kvs ns/\ns.length<=i/\kvs.length<=i/\j5 d H3 H4)
     ⟨[],[],none,rfl,⟨h3d,rfl,ef6,fun l hl=>by simp at hl,fun z=>⟨fun h=>by simp at h,fun ⟨r,h,_⟩=>by simp at h⟩⟩,dz3 _,dz3 _,j5.refl d H3⟩ (fun i σ H4 _ ⟨_,_,_,_,_,_,_,kb⟩=>h8.of (kb g _ h3g ngd)) ?_ ?_⟩
   · rintro i y σ H4 hi ⟨kvs,ns,v2,rfl,ca,lns,lkv,kb⟩;rw[dz4] at hi
     cases hai:as[i]? with
     |none=>rw[hai] at hi;cases hi
     |some e=>
      rw[hai] at hi;cases hi;have hil:i < as.length:=(dz2.mp hai).1;have hri:rs[i]? =some (rs[i]'(by rw[<-rows.1];exact hil)):=dz1 _;generalize hR:rs[i]'(by rw[<-rows.1];exact hil)=R at hri;have h3e:=rows.2 i e R hai hri
      have nde:e≠d:=fun z=>by have:=fa e (dz8 hai);rw[z,h1d] at this;cases this
      have h4e:=kb e _ h3e nde;refine ⟨_,rfl,d,rfl,.inl ⟨_,.inl ca.at_⟩,_,rfl,e,_,rfl,.inl (h8.of h4e),?_⟩;rw[dz0];refine ⟨_,W9.k (k:=Sum.inl ((R.length:Nat):Int)) ca.at_,?_⟩
      have key:((C9 kvs (Sum.inl ((R.length:Nat):Int):o9)).getD (.int 0))= .int ((w6 (rs.take i) R.length:Nat):Int):=by
        by_cases hm:((R.length:Nat):Int)∈ns
        · rw[ca.val R.length hm];rfl
        · rw[bl3 ca.keys hm]
          have:w6 (rs.take i) R.length=0:=by
            by_cases z:w6 (rs.take i) R.length=0
            · exact z
            · obtain ⟨r,hr',e'⟩:=cf3 z;exact absurd ((ca.all _).mpr ⟨r,hr',by rw[e']⟩) hm
          rw[this];rfl
      rw[key];refine ⟨_,_,rfl,rfl,?_⟩;refine ⟨_,rfl,_,rfl,e,_,rfl,.inl (h8.of h4e),?_⟩;rw[dz0];refine ⟨d,_,rfl,aq7.k (k:=Sum.inl ((R.length:Nat):Int)) ca.at_ (x8 (by omega)),?_⟩
      have ec:(((w6 (rs.take i) R.length:Nat):Int)+1)=((w6 (rs.take (i+1)) R.length:Nat):Int):=by
        rw[l6 hri,bq0,if_pos rfl];omega
      dsimp only
      rw[ec]
      have hval:∀l:Nat,l≠R.length->w6 (rs.take (i+1)) l=w6 (rs.take i) l:=fun l hl=>by
        rw[l6 hri,bq0,if_neg (fun z=>hl z.symm)];omega
      have hall:∀z:Int,(∃r∈rs.take (i+1),z=(r.length:Int))↔(∃r∈rs.take i,z=(r.length:Int))\/z=(R.length:Int):=fun z=>by
        rw[l6 hri];constructor
        · rintro ⟨r,hr',e'⟩
          rcases ea3.mp hr' with y|y
          · exact .inl ⟨r,y,e'⟩
          · have:r=R:=by simpa using y
            rw[this] at e';exact .inr e'
        · rintro (⟨r,hr',e'⟩|e')
          · exact ⟨r,ed9 _ hr',e'⟩
          · exact ⟨R,ea9 _ (by simp),e'⟩
      have lput:=al1 kvs (Sum.inl ((R.length:Nat):Int):o9) (V.int ((w6 (rs.take (i+1)) R.length:Nat):Int))
      by_cases hm:((R.length:Nat):Int)∈ns
      · refine ⟨_,ns,_,rfl,⟨c8,dl5 ca.keys hm _,ca.nd,fun l hl=> ?_,fun z=> ?_⟩,by omega,by omega,kb.upd_a⟩
        · rw[bv7]
          by_cases e':l=R.length
          · subst e';rw[if_pos rfl]
          · rw[if_neg (fun z=>e' (by have:=Sum.inl.inj z;omega)),ca.val l hl,hval l e']
        · rw[hall,ca.all];constructor
          · exact fun h=> .inl h
          · rintro (h|h)
            · exact h
            · rw[h];exact (ca.all _).mp hm
      · refine ⟨_,ns++[((R.length:Nat):Int)],_,rfl,⟨c8,dl4 ca.keys hm _,an7 ca.nd hm,fun l hl=> ?_,fun z=> ?_⟩,by rw[dz9];show ns.length+1<=i+1;omega,by omega,kb.upd_a⟩
        · rw[bv7]
          by_cases e':l=R.length
          · subst e';rw[if_pos rfl]
          · rw[if_neg (fun z=>e' (by have:=Sum.inl.inj z;omega))]
            rcases ea3.mp hl with y|y
            · rw[ca.val l y,hval l e']
            · have:(l:Int)=((R.length:Nat):Int):=by simpa using y
              exact absurd (by omega) e'
        · rw[hall,ea3,ca.all];constructor
          · rintro (h|h)
            · exact .inl h
            · exact .inr (by simpa using h)
          · rintro (h|h)
            · exact .inl h
            · exact .inr (by rw[h];simp)
   · rintro σ H4 ⟨kvs,ns,v2,rfl,ca,lns,lkv,kb⟩;rw[dz0] at lns ca;rw[lrs,ec4,up.eq] at ca;refine ⟨_,rfl,q d kvs ns H4 hd (fun b o hb=>kb b o (s13 b o (s1 b o hb)) (g8 hb hd)) ca (fun z hz=> ?_) (by omega)⟩;obtain ⟨r,hr',rfl⟩:=(ca.all z).mp hz;have:=cz3 tp (ah7 tp) r hr';omega
end
end My
namespace My
local macro_rules|`(tactic|omega)=>`(tactic|lia)
open PySem L2 Mth
section
variable {P:Program} {w:World} {K:PySem.W.Frag} {mg:Str->Option Value} {base:Heap}
def J7 (xs:List Nat):List Int:=xs.map fun (d:Nat)=>(d:Int)
def A0 (l m j:Nat):List Nat:=((ed0 j).map (· +1)).filter fun d=>decide (ec8 (d*l) m=d)
theorem aj0 (l m j:Nat):A0 l m (j+1)=if ec8 ((j+1)*l) m=j+1 then A0 l m j++[j+1] else A0 l m j:=by
 unfold A0;rw[ej6,dz6,ek6];show _++List.filter _ [j+1]=_
 split
 · rename_i h;rw[eh7 (p:=fun d=>decide (ec8 (d*l) m=d)) (decide_eq_true h)];rfl
 · rename_i h;rw[eh8 (p:=fun d=>decide (ec8 (d*l) m=d)) (by simpa using h),en1,eb8]
theorem X5 (l m j:Nat):(A0 l m j).length<=j:=by
 unfold A0;refine ea4 (ei7 _ _) ?_;rw[dz0,ec5];exact dz3 _
theorem J8 {l m j d:Nat}(h:d∈A0 l m j):1<=d/\d<=j:=by
 unfold A0 at h;obtain ⟨i,hi,e⟩:=ea2.mp (ef2.mp h).1;have:=ed1.mp hi;omega
def at4:Sp:=fun vs H Q _=>∃(l m j:Nat),vs=[.int (l:Int),.int (m:Int),.int (j:Int)]/\l<=1000/\j<=1000/\∀(a:Addr) (H':Hp),H a=none->e8 H H'->H' a=some (.lst ((J7 (A0 l m j)).map V.int))->Q (.ref a) H'
theorem be5:m9 ["length","m","most"] ["length","m","most"] (j7 aa4):=⟨rfl,rfl,rfl,by decide+kernel,rfl,by decide+kernel,by decide+kernel⟩
theorem ae3:(["d","m","length"]:List Str).Nodup:=by decide+kernel
theorem be6 {f:Addr}{fd:FuncData}(F:C7 K "right_numbers" "right_numbers" aa4 f fd)(B:Bl mg)(c_greatest_part:n0 P w K mg base "greatest_part" 1 ["a","b"] ck6):n6 P w K mg base E9 2 f fd ["length","m","most"] at4:=by
 refine F.ok be5 (fun vs H Q E h=> ?_) (fun cdv A outer s H vs Q E hr h=> ?_)
 · obtain ⟨l,m,j,rfl,hl,hj,q⟩:=h;rfl
 · obtain ⟨l,m,j,rfl,hl,hj,q⟩:=h;have hr_greatest_part:l9 1 _:=hr.mono (by decide);refine ⟨_,@g6 _ _ _ (@l8 _ _ _ _ (@ba3 _ _ _ _ _ _ _ _ _ _ _ (["d","m","length"]) (1) ([1,0]) rfl .of (@R8 _ _ _ _ _ _ _ (by rfl) B.range (@c5 _ _ _ _ _ (@g9 _ _ _ _) (@c5 _ _ _ _ _ (@i7 _ _ _ _ _ _ _ _ E7 (pv 2) (@g9 _ _ _ _)) (@c6 _) (by rfl)) (by rfl)) (by rfl) (by rfl)) (fun _ _ _ _ _=>@j6 _ _ (0) _ ae3 rfl (Or.inl rfl) (by first|exact .inl rfl|exact .inr rfl|assumption)) (fun _ _ _ _ _=>@ah2 _ _ _ (@j8 _ _ _ _ _ _ _ _ ad0 (@i8 _ _ _ _ _ _ _ _ _ _ c_greatest_part hr_greatest_part (@c5 _ _ _ _ _ (@i7 _ _ _ _ _ _ _ _ O4 (pv 0) (pv 2)) (@c5 _ _ _ _ _ (pv 1) (@c6 _) (by rfl)) (by rfl)) (by rfl) (by decide) (by rfl) (by rfl)) (pv 0) (n5 _))) (fun _ _ _ _ _=>(pv 0)) (by intro _;rfl))),?_⟩
   try dsimp only[x9,Cx.nox,Cx.wish]
   refine ⟨_,rfl,_,_,rfl,rfl,1,(j:Int)+1,rfl,⟨by decide,by decide,by omega,by omega⟩,?_⟩
   have en:((j:Int)+1 - 1).toNat=j:=by omega
   rw[en];refine aq9 (lo:=1) (n:=j) (fun i ys σ H2=>∃v:Option V,σ=[v,some (.int (m:Int)),some (.int (l:Int))]/\H2=H/\ys=(J7 (A0 l m i)).map V.int) ⟨none,rfl,rfl,by simp [A0,J7]⟩ ?_ ?_
   · rintro i ys σ H2 hi ⟨v,rfl,rfl,rfl⟩;have li:=X5 l m i;have es:=aj0 l m i
     have e1:(1:Int)+(i:Int)=((i+1:Nat):Int):=by omega
     refine ⟨_,rfl,_,rfl,_,_,rfl,rfl,.inr ⟨by omega,by omega⟩,_,rfl,(i+1)*l,m,?_,?_⟩
     · show [V.int ((1+(i:Int))*(l:Int)),V.int (m:Int)]++[]=_;rw[e1,<-ed4];rfl
     refine ⟨_,rfl,rfl,_,rfl,aa0 (fun h1=> ?_) (fun h1=> ?_)⟩
     · have d1:ec8 ((i+1)*l) m=i+1:=by
         have:=V.int.inj (of_decide_eq_true h1);omega
       refine ⟨_,rfl,x8 (by unfold J7;rw[dz0,dz0];omega),_,rfl,rfl,?_⟩;rw[es,if_pos d1];unfold J7;rw[dz6,dz6,e1];rfl
     · have d1:¬ec8 ((i+1)*l) m=i+1:=fun e=>h1 (decide_eq_true (congrArg V.int (by rw[e];omega)))
       refine ⟨_,rfl,rfl,?_⟩;rw[es,if_neg d1]
   · rintro ys σ H2 ⟨v,rfl,rfl,rfl⟩ D hD;exact q D _ hD (e8.upd_new hD) c8
def r6 (n l:Nat):Nat->Nat
 |0=>1
 |k+1=>r6 n l k*(n - (k+1))*l
def be7:Sp:=fun vs H Q _=>∃(n d l:Nat),vs=[.int (n:Int),.int (d:Int),.int (l:Int)]/\1<=d/\d<=n/\n<=1000/\l<=1000/\Q (.int ((r6 n l (d - 1):Nat):Int)) H
theorem Q5:m9 ["left","part","length","ways","taken"] ["left","part","length"] (j7 Y6):=⟨rfl,rfl,rfl,by decide+kernel,rfl,by decide+kernel,by decide+kernel⟩
theorem bb9 {f:Addr}{fd:FuncData}(F:C7 K "ways_to_follow" "ways_to_follow" Y6 f fd)(B:Bl mg):n6 P w K mg base E9 1 f fd ["left","part","length"] be7:=by
 refine F.ok Q5 (fun vs H Q E h=> ?_) (fun cdv A outer s H vs Q E hr h=> ?_)
 · obtain ⟨n,d,l,rfl,d1,dn,hn,hl,q⟩:=h;rfl
 · obtain ⟨n,d,l,rfl,d1,dn,hn,hl,q⟩:=h;refine ⟨_,@c7 _ _ _ _ _ (@i4 _ _ (3) _ _ _ _ Q5.nd rfl (Or.inl rfl) (@g9 _ _ _ _) (by rfl) (by first|exact .inl rfl|exact .inr rfl|assumption)) (@c7 _ _ _ _ _ (@o6 _ _ _ _ _ _ _ _ PassesOwn.never rfl (@R8 _ _ _ _ _ _ _ (by rfl) B.range (@c5 _ _ _ _ _ (@g9 _ _ _ _) (@c5 _ _ _ _ _ (pv 1) (@c6 _) (by rfl)) (by rfl)) (by rfl) (by rfl)) (@j6 _ _ (4) _ Q5.nd rfl (Or.inl rfl) (by first|exact .inl rfl|exact .inr rfl|assumption)) (@g6 _ _ _ (@i4 _ _ (3) _ _ _ _ Q5.nd rfl (Or.inl rfl) (@i7 _ _ _ _ _ _ _ _ O4 (@i7 _ _ _ _ _ _ _ _ O4 (pv 3) (@i7 _ _ _ _ _ _ _ _ V0 (pv 0) (pv 4))) (pv 2)) (by rfl) (by first|exact .inl rfl|exact .inr rfl|assumption))) (by intro _;rfl)) (@g6 _ _ _ (@l8 _ _ _ _ (pv 3)))),?_⟩
   try dsimp only[x9,Cx.nox,Cx.wish]
   refine ⟨_,rfl,1,(d:Int),rfl,⟨by decide,by decide,by omega,by omega⟩,?_⟩
   have en:((d:Int) - 1).toNat=d - 1:=by omega
   rw[en];refine E3 (lo:=1) (n:=d - 1) (fun i σ H2=>∃v:Option V,σ=[some (.int (n:Int)),some (.int (d:Int)),some (.int (l:Int)),some (.int ((r6 n l i:Nat):Int)),v]/\H2=H) ⟨none,rfl,rfl⟩ ?_ ?_
   · rintro i σ H2 hi ⟨v,rfl,rfl⟩
     have e64:(2:Int)^64=18446744073709551616:=by decide
     refine ⟨_,rfl,_,rfl,_,rfl,_,_,rfl,rfl,_,_,rfl,rfl,.inr ⟨by rw[e64];omega,by rw[e64];omega⟩,_,rfl,_,_,rfl,rfl,.inr ⟨by rw[e64];omega,by rw[e64];omega⟩,some (.int (1+(i:Int))),?_,rfl⟩
     have e:((r6 n l i:Nat):Int)*((n:Int) - (1+(i:Int)))*(l:Int)=((r6 n l (i+1):Nat):Int):=by
       show _=((r6 n l i*(n - (i+1))*l:Nat):Int);rw[ed4,ed4]
       congr 2
       omega
     rw[<-e];rfl
   · rintro σ H2 ⟨v,rfl,rfl⟩;exact ⟨_,rfl,q⟩
def at6 (l:Nat)(rs cs:List Nat)(n:Nat):Nat:=((rs.filter fun d=>decide (d<=n)).map fun d=>r6 n l (d - 1)*cs.getD (n - d) 0).sum
def G4 (l:Nat)(rs:List Nat):Nat->List Nat
 |0=>[1]
 |k+1=>G4 l rs k++[at6 l rs (G4 l rs k) (k+1)]
def E2 (l m n:Nat):Nat:=(G4 l (A0 l m n) n).getD n 0
theorem Q0 (l:Nat)(rs:List Nat):∀k,(G4 l rs k).length=k+1
 |0=>rfl
 |k+1=>by
  show (G4 l rs k++[_]).length=_;rw[dz9,Q0 l rs k];rfl
theorem ay2 {n l:Nat}(h:n*l<=1600):∀k,r6 n l k<=1600^k
 |0=>dz3 _
 |k+1=>by
  show r6 n l k*(n - (k+1))*l<=_;rw[eg1,ek9];refine eg3 (ay2 h k) (ea4 (eg9 _ (Nat.sub_le _ _)) h)
theorem bj1 {c:Nat}:∀{xs:List Nat},(∀x∈xs,x<=c)->xs.sum<=xs.length*c
 |[],_=>eb4 _
 |x::xs,h=>by
  have:=bj1 fun y hy=>h y (ea0 _ hy)
  have:=h x dz7;rw[et1,ee9,el7,ev3];omega
theorem be8 {l:Nat}{rs:List Nat}(hl:l<=40)(hr:rs.length<=40)(h1:∀d∈rs,1<=d):∀k,k<=40->∀i,(G4 l rs k).getD i 0<=1600^i
 |0,_,0=>dz3 _
 |0,_,i+1=>eb4 _
 |k+1,hk,i=>by
  have ih:=be8 hl hr h1 k (by omega);show (G4 l rs k++[_]).getD i 0<=_;have ln:=Q0 l rs k;rw[dz5]
  by_cases z:i < k+1
  · rw[eb6 (by omega),<-dz5];exact ih i
  · rw[eb9 (by omega),ln]
    by_cases y:i=k+1
    · subst y;rw[ek1];show at6 l rs (G4 l rs k) (k+1)<=_;unfold at6;refine ea4 (bj1 (c:=1600^k) fun x hx=> ?_) ?_
      · obtain ⟨d,hd,rfl⟩:=ea2.mp hx;obtain ⟨hd1,hd2⟩:=ef2.mp hd;have d1:=h1 d hd1;have d2:d<=k+1:=of_decide_eq_true hd2;have a:=ay2 (n:=k+1) (l:=l) (ea4 (eg3 hk hl) (by decide)) (d - 1);have b:=ih (k+1 - d);refine ea4 (eg3 a b) ?_;rw[<-ev5,show d - 1+(k+1 - d)=k by omega];exact dz3 _
      · rw[dz0,ek9,ef5 (1600^k)];refine eg9 _ ?_;have:=ei7 (fun d=>decide (d<=k+1)) rs;omega
    · rw[ea5 (by show 1<=i - (k+1);omega)];exact eb4 _
theorem cg7 {xs:List Nat}{i:Int}(h0:0<=i)(h1:i < xs.length):atI ((J7 xs).map V.int) i=some (.int ((xs.getD i.toNat 0:Nat):Int)):=by
 have l:(J7 xs).length=xs.length:=dz0 ..;rw[Mth.W0 h0 (by rw[l];exact h1)]
 congr 2
 unfold J7;rw[dz5,dz5,dz4]
 cases xs[i.toNat]? <;>rfl
theorem dn7 {xs:List Nat}{j:Nat}{x:V}(h:((J7 xs).map V.int)[j]? =some x):∃d:Nat,xs[j]? =some d/\x= .int (d:Int):=by
 unfold J7 at h;rw[dz4,dz4] at h
 cases e:xs[j]? with
 |none=>rw[e] at h;cases h
 |some d=>rw[e] at h;exact ⟨d,rfl,(Option.some.inj h).symm⟩
theorem cg8:∀xs:List Nat,(J7 xs).sum=((xs.sum:Nat):Int)
 |[]=>rfl
 |x::xs=>by
  show (x:Int)+(J7 xs).sum=_;rw[cg8 xs,et1,ev0]
theorem bj2 (i:Nat)(h:i<=40){n:Nat}(hn:440 < n):1600^i < 2^n:=by
 have a:1600^i<=(2^11)^i:=el1 (by decide) i;rw[<-er9] at a;exact eb5 a (Nat.pow_lt_pow_right (by decide) (by omega))
def bm7:Sp:=fun vs H Q _=>∃(l n m:Nat),vs=[.int (l:Int),.int (n:Int),.int (m:Int)]/\l<=40/\n<=40/\∀H':Hp,e8 H H'->Q (.int ((E2 l m n:Nat):Int)) H'
theorem R0:m9 ["length","many","m","right","counts","left","ways"] ["length","many","m"] (j7 af1):=⟨rfl,rfl,rfl,by decide+kernel,rfl,by decide+kernel,by decide+kernel⟩
theorem U4:(["part","left","length","counts"]:List Str).Nodup:=by decide+kernel
theorem bm8 {f:Addr}{fd:FuncData}(F:C7 K "count_joins" "count_joins" af1 f fd)(B:Bl mg)(c_right_numbers:n0 P w K mg base "right_numbers" 2 ["length","m","most"] at4)(c_ways_to_follow:n0 P w K mg base "ways_to_follow" 1 ["left","part","length"] be7):n6 P w K mg base E9 3 f fd ["length","many","m"] bm7:=by
 refine F.ok R0 (fun vs H Q E h=> ?_) (fun cdv A outer s H vs Q E hr h=> ?_)
 · obtain ⟨l,n,m,rfl,hl,hn,q⟩:=h;rfl
 · obtain ⟨l,n,m,rfl,hl,hn,q⟩:=h;have hr_right_numbers:l9 2 _:=hr.mono (by decide);have hr_ways_to_follow:l9 1 _:=hr.mono (by decide);refine ⟨_,@c7 _ _ _ _ _ (@i4 _ _ (3) _ _ _ _ R0.nd rfl (Or.inl rfl) (@i8 _ _ _ _ _ _ _ _ _ _ c_right_numbers hr_right_numbers (@c5 _ _ _ _ _ (pv 0) (@c5 _ _ _ _ _ (pv 2) (@c5 _ _ _ _ _ (pv 1) (@c6 _) (by rfl)) (by rfl)) (by rfl)) (by rfl) (by decide) (by rfl) (by rfl)) (by rfl) (by first|exact .inl rfl|exact .inr rfl|assumption)) (@c7 _ _ _ _ _ (@i4 _ _ (4) _ _ _ _ R0.nd rfl (Or.inr rfl) (@o8 _ _ _ _ (@c5 _ _ _ _ _ (@g9 _ _ _ _) (@c6 _) (by rfl))) (by rfl) (by first|exact .inl rfl|exact .inr rfl|assumption)) (@c7 _ _ _ _ _ (@o6 _ _ _ _ _ _ _ _ PassesOwn.never rfl (@R8 _ _ _ _ _ _ _ (by rfl) B.range (@c5 _ _ _ _ _ (@g9 _ _ _ _) (@c5 _ _ _ _ _ (@i7 _ _ _ _ _ _ _ _ E7 (pv 1) (@g9 _ _ _ _)) (@c6 _) (by rfl)) (by rfl)) (by rfl) (by rfl)) (@j6 _ _ (5) _ R0.nd rfl (Or.inr rfl) (by first|exact .inl rfl|exact .inr rfl|assumption)) (@c7 _ _ _ _ _ (@ce6 _ (6) _ _ _ _ _ _ _ _ _ _ _ _ _ (["part","left","length","counts"]) (1) ([5,0,4]) R0.nd rfl (Or.inl rfl) rfl .of (@G8 _ _ _ _ (pv 3)) (fun _ _ _ _ _=>@j6 _ _ (0) _ U4 rfl (Or.inl rfl) (by first|exact .inl rfl|exact .inr rfl|assumption)) (fun _ _ _ _ _=>@ah2 _ _ _ (@j8 _ _ _ _ _ _ _ _ ci8 (pv 0) (pv 1) (n5 _))) (fun _ _ _ _ _=>(@i7 _ _ _ _ _ _ _ _ P5 (@i8 _ _ _ _ _ _ _ _ _ _ c_ways_to_follow hr_ways_to_follow (@c5 _ _ _ _ _ (pv 1) (@c5 _ _ _ _ _ (pv 0) (@c5 _ _ _ _ _ (pv 2) (@c6 _) (by rfl)) (by rfl)) (by rfl)) (by rfl) (by decide) (by rfl) (by rfl)) (@J9 _ _ _ _ _ _ (dj7 K) C5 (pv 3) (@i7 _ _ _ _ _ _ _ _ V0 (pv 1) (pv 0)) (fun _ _=>rfl)))) (by rfl) (by intro _;rfl) (by first|exact .inl rfl|exact .inr rfl|assumption)) (@g6 _ _ _ (@y6 _ _ _ _ (@E4 _ _ _ _ _ _ _ (pv 4) (@c5 _ _ _ _ _ (@dl0 _ _ _ _ _ rfl B.sum (@c5 _ _ _ _ _ (pv 6) (@c6 _) (by rfl)) (by rfl) (by rfl)) (@c6 _) (by rfl)) (by rfl) (by rfl) (by rfl) (by rfl) (by rfl)) (by rfl)))) (by intro _;rfl)) (@g6 _ _ _ (@l8 _ _ _ _ (@J9 _ _ _ _ _ _ _ C5 (pv 4) (pv 1) (fun _ _=>rfl)))))),?_⟩;refine bj0 ?_;intros
   try dsimp only[x9,Cx.nox,Cx.wish]
   refine ⟨_,rfl,_,rfl,_,rfl,l,m,n,rfl,by omega,by omega,fun ra H1 hra s1 h1=> ?_⟩;obtain ⟨rs,ers⟩:∃rs,rs=A0 l m n:=⟨_,rfl⟩;rw[<-ers] at h1;refine ⟨(show 1<=sizeLine by decide),fun cs hcs=> ?_⟩;have s2:e8 H1 (c9 H1 cs (.lst [V.int 1])):=e8.upd_new hcs;have h2:(c9 H1 cs (.lst [V.int 1])) cs=some (.lst ((J7 (G4 l rs 0)).map V.int)):=c8;have h2r:=s2 _ _ h1;have nrc:ra≠cs:=g8 h1 hcs;generalize (c9 H1 cs (.lst [V.int 1]))=H2 at s2 h2 h2r ⊢;refine ⟨_,rfl,_,_,rfl,rfl,1,(n:Int)+1,rfl,⟨by decide,by decide,by omega,by omega⟩,?_⟩
   have en:((n:Int)+1 - 1).toNat=n:=by omega
   rw[en];refine E3 (lo:=1) (n:=n) (fun i σ H3=>∃v w:Option V,σ=[some (.int (l:Int)),some (.int (n:Int)),some (.int (m:Int)),some (.ref ra),some (.ref cs),v,w]/\H3 cs=some (.lst ((J7 (G4 l rs i)).map V.int))/\j5 cs H2 H3) ⟨none,none,rfl,h2,j5.refl cs H2⟩ ?_ ?_
   · rintro i σ H3 hi ⟨v,w,rfl,h3,kb3⟩;have h3r:=kb3 _ _ h2r nrc
     have lrs:rs.length<=40:=by rw[ers];exact ea4 (X5 l m n) hn
     have prs:∀d∈rs,1<=d:=fun d hd=>by rw[ers] at hd;exact (J8 hd).1
     have e1:(1:Int)+(i:Int)=((i+1:Nat):Int):=by omega
     rw[e1]
     refine ⟨_,rfl,ra,rfl,⟨_,h8.of h3r⟩,bp5 (K:=K) (a:=ra) (xs:=(J7 rs).map V.int) (fun j ys σ H4=>∃u:Option V,σ=[u,some (.int ((i+1:Nat):Int)),some (.int (l:Int)),some (.ref cs)]/\H4=H3/\ys=(J7 (((rs.take j).filter fun d=>decide (d<=i+1)).map fun d=>r6 (i+1) l (d - 1)*(G4 l rs i).getD (i+1 - d) 0)).map V.int)
       ⟨none,rfl,rfl,by simp [J7]⟩ (fun j ys σ H4 _ ⟨_,_,e,_⟩=>by rw[e];exact h8.of h3r) ?_ ?_⟩
     · rintro j x ys σ H4 hj ⟨u,rfl,rfl,rfl⟩;obtain ⟨d,hd,rfl⟩:=dn7 hj;have d1:=prs d (dz8 hd);have jl:j < rs.length:=(dz2.mp hd).1;refine ⟨_,rfl,_,rfl,_,_,rfl,rfl,_,rfl,aa0 (fun h1=> ?_) (fun h1=> ?_)⟩
       · have dn:d<=i+1:=by
           have:=of_decide_eq_true h1;omega
         refine ⟨_,rfl,_,rfl,_,rfl,i+1,d,l,rfl,d1,dn,by omega,by omega,_,rfl,_,rfl,_,rfl,_,_,rfl,rfl,cs,_,_,_,rfl,rfl,h8.of h3,cg7 (xs:=G4 l rs i) (by omega) (by rw[Q0];omega),_,_,rfl,rfl,⟨?_,?_⟩,?_⟩
         · rw[ei0];exact eb5 (ay2 (ea4 (eg3 (show i+1<=40 by omega) hl) (by decide)) _) (bj2 (d - 1) (by omega) (by decide))
         · rw[ei0];exact eb5 (be8 hl lrs prs i (by omega) _) (bj2 _ (by omega) (by decide))
         · have lj:((rs.take j).filter fun d=>decide (d<=i+1)).length<=40:=ea4 (ei7 _ _) (by rw[eb2];omega);refine ⟨x8 (by unfold J7;rw[dz0,dz0,dz0];omega),_,rfl,rfl,?_⟩;rw[l6 hd,ek6,eh7 (p:=fun d=>decide (d<=i+1)) (decide_eq_true dn),en1];unfold J7;rw[dz6,dz6,dz6]
           congr 1
           have ed:((((i+1:Nat):Int)) - (d:Int)).toNat=i+1 - d:=by omega
           show [V.int (((r6 (i+1) l (d - 1):Nat):Int)*(((G4 l rs i).getD ((((i+1:Nat):Int)) - (d:Int)).toNat 0:Nat):Int))]=[V.int ((r6 (i+1) l (d - 1)*(G4 l rs i).getD (i+1 - d) 0:Nat):Int)];rw[ed,ed4]
       · have dn:¬d<=i+1:=fun z=>h1 (decide_eq_true (by omega))
         refine ⟨_,rfl,rfl,?_⟩;rw[l6 hd,ek6,eh8 (p:=fun d=>decide (d<=i+1)) (by simpa using dn),en1,eb8]
     · rintro ys σ H4 ⟨u,rfl,rfl,rfl⟩ D hD
       have ll:((J7 rs).map V.int).length=rs.length:=by unfold J7;rw[dz0,dz0]
       rw[ll,ec4]
       obtain ⟨ws,ews⟩:∃ws,ws=(rs.filter fun d=>decide (d<=i+1)).map fun d=>r6 (i+1) l (d - 1)*(G4 l rs i).getD (i+1 - d) 0:=⟨_,rfl⟩
       rw[<-ews];have s5:e8 H4 (c9 H4 D (.lst ((J7 ws).map V.int))):=e8.upd_new hD;have h5:(c9 H4 D (.lst ((J7 ws).map V.int))) D=some (.lst ((J7 ws).map V.int)):=c8;generalize (c9 H4 D (.lst ((J7 ws).map V.int)))=H5 at s5 h5 ⊢;have h5c:=s5 _ _ h3;refine ⟨_,rfl,.inl ⟨rfl,_,h8.of h5c⟩,_,rfl,D,_,rfl,h8.of h5,cs,_,_,rfl,rfl,h5c,x8 (by unfold J7;rw[dz0,dz0,Q0];omega),?_⟩;refine ⟨_,_,rfl,?_,fun x o hx hn=>by rw[g7 hn];exact s5 x o (kb3 x o hx hn)⟩;rw[c8,cg8,ews];show some (HO.lst (_++[V.int ((at6 l rs (G4 l rs i) (i+1):Nat):Int)]))=some (HO.lst ((J7 (G4 l rs i++[at6 l rs (G4 l rs i) (i+1)])).map V.int));unfold J7;rw[dz6,dz6];rfl
   · rintro σ H3 ⟨v,w,rfl,h3,kb3⟩;have s3:e8 H H3:=(s1.trans s2).kb kb3 (s1.free hcs);refine ⟨_,rfl,_,rfl,cs,_,_,_,rfl,rfl,h8.of h3,cg7 (xs:=G4 l rs n) (by omega) (by rw[Q0];omega),?_⟩;rw[ee0,ers];exact q H3 s3
theorem ak4 {l m n:Nat}(hl:l<=40)(hn:n<=40):E2 l m n<=1600^40:=
 ea4 (be8 hl (ea4 (X5 l m n) hn) (fun _ hd=>(J8 hd).1) n hn n) (ei1 (by decide) hn)
theorem be9 {f:Nat->Nat}{c:Nat}:∀{ks:List Nat},(∀k∈ks,f k<=c)->y8 f ks<=c^ks.length
 |[],_=>dz3 _
 |k::ks,h=>by
  show f k*y8 f ks<=c^(ks.length+1);rw[ek9,ef5];exact eg3 (be9 fun x hx=>h x (ea0 _ hx)) (h k dz7)
theorem cg9 (i:Nat)(h:i<=40){n:Nat}(hn:17600 < n):(1600^40)^i < 2^n:=by
 rw[<-er9];have a:1600^(40*i)<=(2^11)^(40*i):=el1 (by decide) _;rw[<-er9] at a;exact eb5 a (Nat.pow_lt_pow_right (by decide) (by omega))
theorem ak5 {p:List Int}(t:y7 p){rs:List (List Int)}(up:I0 p p.length rs){ks:List Nat}(nk:ks.Nodup)(h1:∀k∈ks,∃r∈rs,r.length=k)(h2:∀r∈rs,r.length∈ks){f:Nat->Nat}(hf:∀u,w6 rs u=0->f u=1):
   y8 f ks=y8 f ((ed0 p.length).map (· +1)):=by
 refine bp9 nk ?_ (fun k hk=> ?_) fun u hu hn=> ?_
 · exact List.Pairwise.map (fun x:Nat=>x+1) (fun a b h=>by omega) (eq0 (n:=p.length))
 · obtain ⟨r,hr,rfl⟩:=h1 k hk;obtain ⟨y,L,hy,pr,er,_⟩:=up.ring r hr
   have b:=N9 t hy (m:=L) fun i i0 i1=>pr.least i i0 i1
   have:=pr.pos;rw[er,o7];exact ea2.mpr ⟨L - 1,ed1.mpr (by omega),by omega⟩
 · refine hf u ?_
   by_cases z:w6 rs u=0
   · exact z
   · obtain ⟨r,hr,rfl⟩:=cf3 z;exact absurd (h2 r hr) hn
noncomputable def w9 (p:List Int)(m:Nat):Nat:=y8 (fun l=>E2 l m (w6 (q9 p p.length) l)) ((ed0 p.length).map (· +1))
def aj1:Sp:=fun vs H Q _=>∃(a:Addr) (p:List Int) (m:Nat),vs=[.ref a,.int (m:Int)]/\C3 H a p/\1<=m/\∀H':Hp,e8 H H'->Q (.int ((w9 p m:Nat):Int)) H'
theorem N8:m9 ["p","m","by_length","many","length"] ["p","m"] (j7 Y7):=⟨rfl,rfl,rfl,by decide+kernel,rfl,by decide+kernel,by decide+kernel⟩
theorem bc0 {f:Addr}{fd:FuncData}(F:C7 K "how_many_roots" "how_many_roots" Y7 f fd)(B:Bl mg)(c_must_be_turn:n0 P w K mg base "must_be_turn" 3 ["thing"] ay1)(c_must_be_from_one:n0 P w K mg base "must_be_from_one" 2 ["number"] bi9)(c_sort_by_length:n0 P w K mg base "sort_by_length" 1 ["rings"] bb1)(c_walk_rings:n0 P w K mg base "walk_rings" 2 ["p"] Z5)(c_count_joins:n0 P w K mg base "count_joins" 3 ["length","many","m"] bm7):n6 P w K mg base E9 4 f fd ["p","m"] aj1:=by
 refine F.ok N8 (fun vs H Q E h=> ?_) (fun cdv A outer s H vs Q E hr h=> ?_)
 · obtain ⟨a,p,m,rfl,⟨ha,tp,lp⟩,m1,q⟩:=h;rfl
 · obtain ⟨a,p,m,rfl,⟨ha,tp,lp⟩,m1,q⟩:=h;have hr_must_be_turn:l9 3 _:=hr.mono (by decide);have hr_must_be_from_one:l9 2 _:=hr.mono (by decide);have hr_sort_by_length:l9 1 _:=hr.mono (by decide);have hr_walk_rings:l9 2 _:=hr.mono (by decide);have hr_count_joins:l9 3 _:=hr.mono (by decide);have hu:=P9 hr;refine ⟨_,@c7 _ _ _ _ _ (@y6 _ _ _ _ (@i8 _ _ _ _ _ _ _ _ _ _ c_must_be_turn hr_must_be_turn (@c5 _ _ _ _ _ (pv 0) (@c6 _) (by rfl)) (by rfl) (by decide) (by rfl) (by rfl)) (by rfl)) (@c7 _ _ _ _ _ (@y6 _ _ _ _ (@i8 _ _ _ _ _ _ _ _ _ _ c_must_be_from_one hr_must_be_from_one (@c5 _ _ _ _ _ (pv 1) (@c6 _) (by rfl)) (by rfl) (by decide) (by rfl) (by rfl)) (by rfl)) (@c7 _ _ _ _ _ (@i4 _ _ (2) _ _ _ _ N8.nd rfl (Or.inl rfl) (@i8 _ _ _ _ _ _ _ _ _ _ c_sort_by_length hr_sort_by_length (@c5 _ _ _ _ _ (@i8 _ _ _ _ _ _ _ _ _ _ c_walk_rings hr_walk_rings (@c5 _ _ _ _ _ (pv 0) (@c6 _) (by rfl)) (by rfl) (by decide) (by rfl) (by rfl)) (@c6 _) (by rfl)) (by rfl) (by decide) (by rfl) (by rfl)) (by rfl) (by first|exact .inl rfl|exact .inr rfl|assumption)) (@c7 _ _ _ _ _ (@i4 _ _ (3) _ _ _ _ N8.nd rfl (Or.inl rfl) (@g9 _ _ _ _) (by rfl) (by first|exact .inl rfl|exact .inr rfl|assumption)) (@c7 _ _ _ _ _ (@o6 _ _ _ _ _ _ _ _ PassesOwn.never rfl (@bl1 _ _ _ _ (pv 2)) (@j6 _ _ (4) _ N8.nd rfl (Or.inl rfl) (by first|exact .inl rfl|exact .inr rfl|assumption)) (@g6 _ _ _ (@i4 _ _ (3) _ _ _ _ N8.nd rfl (Or.inl rfl) (@i7 _ _ _ _ _ _ _ _ P5 (pv 3) (@i8 _ _ _ _ _ _ _ _ _ _ c_count_joins hr_count_joins (@c5 _ _ _ _ _ (pv 4) (@c5 _ _ _ _ _ (@x6 _ _ _ _ _ B.len (@c5 _ _ _ _ _ (@an5 _ _ _ _ _ _ hu (pv 2) (pv 4) (fun _ _=>rfl)) (@c6 _) (by rfl)) (by rfl) (by rfl)) (@c5 _ _ _ _ _ (pv 1) (@c6 _) (by rfl)) (by rfl)) (by rfl)) (by rfl) (by decide) (by rfl) (by rfl))) (by rfl) (by first|exact .inl rfl|exact .inr rfl|assumption))) (by intro _;rfl)) (@g6 _ _ _ (@l8 _ _ _ _ (pv 3))))))),?_⟩;refine ck7 ?_;intros
   try dsimp only[x9,Cx.nox,Cx.wish]
   refine ⟨_,rfl,a,p,rfl,⟨ha,tp,lp⟩,fun H1 s1=> ?_⟩;refine ⟨_,rfl,(m:Int),rfl,by omega,?_⟩;refine ⟨_,rfl,a,p,rfl,⟨s1 a _ ha,tp,lp⟩,fun l as rs H2 hl s12 h2l rows up fa nda nla=> ?_⟩;have cl:=ac7 up;have fl:=aa5 tp up;refine ⟨l,as,rs,rfl,h2l,rows,by omega,fun d es H3 hd s23 h3d bl les fre=> ?_⟩;have s03:=(s1.trans s12).trans s23;have hd0:H d=none:=(s1.trans s12).free hd;refine ⟨_,rfl,d,C8 es,rfl,h3d,fun o=> ?_⟩;have s4:e8 H (c9 H3 d (.frz o (.dK (C8 es)))):=s03.upd_r hd0;have h4d:(c9 H3 d (.frz o (.dK (C8 es)))) d=some (.frz o (.dK (C8 es))):=c8
   have kp:∀c,c≠d->(c9 H3 d (.frz o (.dK (C8 es)))) c=H3 c:=fun c hc=>g7 hc
   generalize (c9 H3 d (.frz o (.dK (C8 es))))=H4 at s4 h4d kp ⊢
   have lkv:(C8 es).length=es.length:=by unfold C8;rw[dz0]
   have fb:∀e∈es,e.1<=40/\w6 rs e.1<=40:=fun e he=>by
     obtain ⟨r,hr',lr⟩:=bl.key e.1 (ea2.mpr ⟨e,he,rfl⟩);obtain ⟨y,L,hy,pr,er,_⟩:=up.ring r hr'
     have b:=N9 tp hy (m:=L) fun i i0 i1=>pr.least i i0 i1
     rw[er,o7] at lr;have:w6 rs e.1<=rs.length:=eq2;exact ⟨by omega,by omega⟩
   refine ar6 (fun i σ H5=>∃(v:Option V),σ=[some (.ref a),some (.int (m:Int)),some (.ref d),some (.int ((y8 (fun l=>E2 l m (w6 rs l)) ((es.take i).map (·.1)):Nat):Int)),v]/\e8 H4 H5)
     ⟨none,rfl,e8.refl H4⟩ (fun i σ H5 _ ⟨_,_,e⟩=>e _ _ h4d) ?_ ?_
   · rintro i k v σ H5 hi ⟨v4,rfl,s5⟩;unfold C8 at hi;rw[dz4] at hi
     cases hE:es[i]? with
     |none=>rw[hE] at hi;cases hi
     |some e=>
      rw[hE] at hi;cases hi;have he:=dz8 hE;have il:i < es.length:=(dz2.mp hE).1;obtain ⟨cs,hcs,rcs⟩:=bl.row e he;obtain ⟨le40,lc40⟩:=fb e he
      have lcs:cs.length=w6 rs e.1:=by
        rw[rcs.1];unfold K9 w6;exact (eq8 ..).symm
      have h5x:H5 e.2=some (.lst (cs.map V.ref)):=s5 _ _ (by rw[kp _ (bl.nd e he)];exact hcs)
      have pb:y8 (fun l=>E2 l m (w6 rs l)) ((es.take i).map (·.1))<=(1600^40)^i:=by
        have:=be9 (f:=fun l=>E2 l m (w6 rs l)) (c:=1600^40) (ks:=(es.take i).map (·.1)) fun k hk=>by
          obtain ⟨e1,he1,rfl⟩:=ea2.mp hk;obtain ⟨b1,b2⟩:=fb e1 (ef0 he1);exact ak4 b1 b2
        rw[dz0,eb2,eo9 (by omega)] at this;exact this
      obtain ⟨F0,hF0⟩:∃F0,F0=y8 (fun l=>E2 l m (w6 rs l)) ((es.take i).map (·.1)):=⟨_,rfl⟩;rw[<-hF0] at pb ⊢;refine ⟨_,rfl,_,rfl,_,rfl,_,rfl,d,.ref e.2,rfl,.inl ⟨C8 es,Sum.inl (e.1:Int),.inr ⟨o,s5 _ _ h4d⟩,rfl,(cs2 bl.nk he).symm⟩,e.2,_,rfl,.inl (h8.of h5x),_,rfl,e.1,cs.length,m,?_,le40,by omega,fun H6 s6=> ?_⟩
      · show [V.int (e.1:Int),V.int (((cs.map V.ref).length:Nat):Int),V.int (m:Int)]++[]=_;rw[dz0];rfl
      refine ⟨_,_,rfl,rfl,⟨?_,?_⟩,some (.int (e.1:Int)),?_,s5.trans s6⟩
      · rw[ei0];exact eb5 pb (cg9 i (by omega) (by decide))
      · rw[ei0];exact eb5 (ak4 le40 (by omega)) (bj2 40 (dz3 _) (by decide))
      · rw[l6 hE,dz6,show ([e].map (·.1):List Nat)=[e.1] from rfl,ar7,<-hF0,<-lcs,ed4];rfl
   · rintro σ H5 ⟨v,rfl,s5⟩;rw[lkv,ec4,ak5 tp up bl.nk bl.key bl.all (f:=fun l=>E2 l m (w6 rs l)) fun u hu=>by show E2 u m (w6 rs u)=1;rw[hu];rfl];have er:rs=q9 p p.length:=up.eq;rw[er];exact ⟨_,rfl,q _ (s4.trans s5)⟩
end
end My
namespace My
local macro_rules|`(tactic|omega)=>`(tactic|lia)
open PySem L2 Mth
section
variable {P:Program} {w:World} {K:PySem.W.Frag} {mg:Str->Option Value} {base:Heap} {q_TurnError q_NoTurn q_NoFit q_NoRounds q_NoNumber q_NoRoot q_TooMany q_NoKind q_NoText q_NoName q_NoRow:Addr}
def bj3 (q_NoTurn q_NoFit q_NoRounds q_NoNumber q_NoRoot q_TooMany q_NoKind q_NoText q_NoName q_NoRow:Addr):Sp:=fun vs H Q _=>∃(a:Addr) (n:Str) (C:Addr),vs=[.ref a]/\H a=some (bx6 a C)/\(n,C)∈[(("NoTurn":Str),q_NoTurn),("NoFit",q_NoFit),("NoRounds",q_NoRounds),("NoNumber",q_NoNumber),("NoRoot",q_NoRoot),("TooMany",q_TooMany),("NoKind",q_NoKind),("NoText",q_NoText),("NoName",q_NoName),("NoRow",q_NoRow)]/\∀H',e8 H H'->Q (.str n) H'
theorem dg5 {q_NoTurn q_NoFit q_NoRounds q_NoNumber q_NoRoot q_TooMany q_NoKind q_NoText q_NoName q_NoRow:Addr}{n:Str}{C:Addr}(hn:(n,C)∈[(("NoTurn":Str),q_NoTurn),("NoFit",q_NoFit),("NoRounds",q_NoRounds),("NoNumber",q_NoNumber),("NoRoot",q_NoRoot),("TooMany",q_TooMany),("NoKind",q_NoKind),("NoText",q_NoText),("NoName",q_NoName),("NoRow",q_NoRow)]){ks:List V}
   (hk:ks=[.bl (decide (n="NoTurn")),.bl (decide (n="NoNumber")),.bl (decide (n="NoFit")),.bl (decide (n="TooMany")),.bl (decide (n="NoRoot")),.bl (decide (n="NoRounds")),.bl (decide (n="NoKind")),.bl (decide (n="NoText")),.bl (decide (n="NoName")),.bl (decide (n="NoRow"))]):
   ks.length=10/\ks.all O9=true/\ks.countP (fun i=>Z9 i (.bl true))=1/\∃j:Nat,j < 10/\(["NoTurn","NoNumber","NoFit","TooMany","NoRoot","NoRounds","NoKind","NoText","NoName","NoRow"]:List Str)[j]? =some n/\ks[j]? =some (.bl true)/\∀i,i < j->ks[i]? =some (.bl false):=by
 subst hk;simp only[ea8,Prod.mk.injEq,et9,or_false] at hn
 rcases hn with ⟨rfl,_⟩|⟨rfl,_⟩|⟨rfl,_⟩|⟨rfl,_⟩|⟨rfl,_⟩|⟨rfl,_⟩|⟨rfl,_⟩|⟨rfl,_⟩|⟨rfl,_⟩|⟨rfl,_⟩
 · exact ⟨rfl,by decide+kernel,by decide+kernel,0,by decide+kernel,by decide+kernel,by decide+kernel,by decide+kernel⟩
 · exact ⟨rfl,by decide+kernel,by decide+kernel,2,by decide+kernel,by decide+kernel,by decide+kernel,by decide+kernel⟩
 · exact ⟨rfl,by decide+kernel,by decide+kernel,5,by decide+kernel,by decide+kernel,by decide+kernel,by decide+kernel⟩
 · exact ⟨rfl,by decide+kernel,by decide+kernel,1,by decide+kernel,by decide+kernel,by decide+kernel,by decide+kernel⟩
 · exact ⟨rfl,by decide+kernel,by decide+kernel,4,by decide+kernel,by decide+kernel,by decide+kernel,by decide+kernel⟩
 · exact ⟨rfl,by decide+kernel,by decide+kernel,3,by decide+kernel,by decide+kernel,by decide+kernel,by decide+kernel⟩
 · exact ⟨rfl,by decide+kernel,by decide+kernel,6,by decide+kernel,by decide+kernel,by decide+kernel,by decide+kernel⟩
 · exact ⟨rfl,by decide+kernel,by decide+kernel,7,by decide+kernel,by decide+kernel,by decide+kernel,by decide+kernel⟩
 · exact ⟨rfl,by decide+kernel,by decide+kernel,8,by decide+kernel,by decide+kernel,by decide+kernel,by decide+kernel⟩
 · exact ⟨rfl,by decide+kernel,by decide+kernel,9,by decide+kernel,by decide+kernel,by decide+kernel,by decide+kernel⟩
theorem X6:m9 ["caught","kinds","words"] ["caught"] (j7 at2):=⟨rfl,rfl,rfl,by decide+kernel,rfl,by decide+kernel,by decide+kernel⟩
theorem cd3 {f:Addr}{fd:FuncData}(F:C7 K "_law_word" "_law_word" at2 f fd)(B:Bl mg)(ER:ax6 K mg q_TurnError [("NoTurn",q_NoTurn),("NoFit",q_NoFit),("NoRounds",q_NoRounds),("NoNumber",q_NoNumber),("NoRoot",q_NoRoot),("TooMany",q_TooMany),("NoKind",q_NoKind),("NoText",q_NoText),("NoName",q_NoName),("NoRow",q_NoRow)]):n6 P w K mg base E9 1 f fd ["caught"] (bj3 q_NoTurn q_NoFit q_NoRounds q_NoNumber q_NoRoot q_TooMany q_NoKind q_NoText q_NoName q_NoRow):=by
 refine F.ok X6 (fun vs H Q E h=> ?_) (fun cdv A outer s H vs Q E hr h=> ?_)
 · obtain ⟨a,n,C,rfl,hH,hn,q⟩:=h;rfl
 · obtain ⟨a,n,C,rfl,hH,hn,q⟩:=h;refine ⟨_,@c7 _ _ _ _ _ (@i4 _ _ (1) _ _ _ _ X6.nd rfl (Or.inl rfl) (@o8 _ _ _ _ (@c5 _ _ _ _ _ (@Q8 _ _ _ _ _ _ B.isi (@c5 _ _ _ _ _ (pv 0) (@c5 _ _ _ _ _ (@O2 _ _ (.ref q_NoTurn) _ _ (by rfl) (ER.err ("NoTurn",q_NoTurn) (by simp)).mg rfl (by decide)) (@c6 _) (by rfl)) (by rfl)) (by rfl) (by rfl) (by rfl)) (@c5 _ _ _ _ _ (@Q8 _ _ _ _ _ _ B.isi (@c5 _ _ _ _ _ (pv 0) (@c5 _ _ _ _ _ (@O2 _ _ (.ref q_NoNumber) _ _ (by rfl) (ER.err ("NoNumber",q_NoNumber) (by simp)).mg rfl (by decide)) (@c6 _) (by rfl)) (by rfl)) (by rfl) (by rfl) (by rfl)) (@c5 _ _ _ _ _ (@Q8 _ _ _ _ _ _ B.isi (@c5 _ _ _ _ _ (pv 0) (@c5 _ _ _ _ _ (@O2 _ _ (.ref q_NoFit) _ _ (by rfl) (ER.err ("NoFit",q_NoFit) (by simp)).mg rfl (by decide)) (@c6 _) (by rfl)) (by rfl)) (by rfl) (by rfl) (by rfl)) (@c6 _) (by rfl)) (by rfl)) (by rfl))) (by rfl) (by first|exact .inl rfl|exact .inr rfl|assumption)) (@c7 _ _ _ _ _ (@i4 _ _ (1) _ _ _ _ X6.nd rfl (Or.inl rfl) (@i7 _ _ _ _ _ _ _ _ an3 (pv 1) (@o8 _ _ _ _ (@c5 _ _ _ _ _ (@Q8 _ _ _ _ _ _ B.isi (@c5 _ _ _ _ _ (pv 0) (@c5 _ _ _ _ _ (@O2 _ _ (.ref q_TooMany) _ _ (by rfl) (ER.err ("TooMany",q_TooMany) (by simp)).mg rfl (by decide)) (@c6 _) (by rfl)) (by rfl)) (by rfl) (by rfl) (by rfl)) (@c5 _ _ _ _ _ (@Q8 _ _ _ _ _ _ B.isi (@c5 _ _ _ _ _ (pv 0) (@c5 _ _ _ _ _ (@O2 _ _ (.ref q_NoRoot) _ _ (by rfl) (ER.err ("NoRoot",q_NoRoot) (by simp)).mg rfl (by decide)) (@c6 _) (by rfl)) (by rfl)) (by rfl) (by rfl) (by rfl)) (@c5 _ _ _ _ _ (@Q8 _ _ _ _ _ _ B.isi (@c5 _ _ _ _ _ (pv 0) (@c5 _ _ _ _ _ (@O2 _ _ (.ref q_NoRounds) _ _ (by rfl) (ER.err ("NoRounds",q_NoRounds) (by simp)).mg rfl (by decide)) (@c6 _) (by rfl)) (by rfl)) (by rfl) (by rfl) (by rfl)) (@c6 _) (by rfl)) (by rfl)) (by rfl)))) (by rfl) (by first|exact .inl rfl|exact .inr rfl|assumption)) (@c7 _ _ _ _ _ (@i4 _ _ (1) _ _ _ _ X6.nd rfl (Or.inl rfl) (@i7 _ _ _ _ _ _ _ _ an3 (pv 1) (@o8 _ _ _ _ (@c5 _ _ _ _ _ (@Q8 _ _ _ _ _ _ B.isi (@c5 _ _ _ _ _ (pv 0) (@c5 _ _ _ _ _ (@O2 _ _ (.ref q_NoKind) _ _ (by rfl) (ER.err ("NoKind",q_NoKind) (by simp)).mg rfl (by decide)) (@c6 _) (by rfl)) (by rfl)) (by rfl) (by rfl) (by rfl)) (@c5 _ _ _ _ _ (@Q8 _ _ _ _ _ _ B.isi (@c5 _ _ _ _ _ (pv 0) (@c5 _ _ _ _ _ (@O2 _ _ (.ref q_NoText) _ _ (by rfl) (ER.err ("NoText",q_NoText) (by simp)).mg rfl (by decide)) (@c6 _) (by rfl)) (by rfl)) (by rfl) (by rfl) (by rfl)) (@c5 _ _ _ _ _ (@Q8 _ _ _ _ _ _ B.isi (@c5 _ _ _ _ _ (pv 0) (@c5 _ _ _ _ _ (@O2 _ _ (.ref q_NoName) _ _ (by rfl) (ER.err ("NoName",q_NoName) (by simp)).mg rfl (by decide)) (@c6 _) (by rfl)) (by rfl)) (by rfl) (by rfl) (by rfl)) (@c6 _) (by rfl)) (by rfl)) (by rfl)))) (by rfl) (by first|exact .inl rfl|exact .inr rfl|assumption)) (@c7 _ _ _ _ _ (@y6 _ _ _ _ (@E4 _ _ _ _ _ _ _ (pv 1) (@c5 _ _ _ _ _ (@Q8 _ _ _ _ _ _ B.isi (@c5 _ _ _ _ _ (pv 0) (@c5 _ _ _ _ _ (@O2 _ _ (.ref q_NoRow) _ _ (by rfl) (ER.err ("NoRow",q_NoRow) (by simp)).mg rfl (by decide)) (@c6 _) (by rfl)) (by rfl)) (by rfl) (by rfl) (by rfl)) (@c6 _) (by rfl)) (by rfl) (by rfl) (by rfl) (by rfl) (by rfl)) (by rfl)) (@dl7 _ _ _ _ _ (@B5 _ _ _ _ _ _ _ _ (@Q4 _ _ _ _ _ _ _ (@j8 _ _ _ _ _ _ _ _ ap9 (@cr1 _ K _ _ _ _ _ _ (pv 1) (@c5 _ _ _ _ _ (@Q3 _ _ _ _) (@c6 _) (by rfl)) (by rfl) (by rfl) (by rfl) (by rfl) (by rfl) (by rfl)) (@g9 _ _ _ _) (n5 _)) (@Z8 _ _ _ _ (@U9 _ _ _ _ (@S6 _ _ _ (@Q8 _ _ _ _ _ _ B.isi (@c5 _ _ _ _ _ (pv 0) (@c5 _ _ _ _ _ (@de2 _ _ B.ve (by rfl)) (@c6 _) (by rfl)) (by rfl)) (by rfl) (by rfl) (by rfl)) (by intro _;rfl))))).pt (@g6 _ _ _ (@l8 _ _ _ _ (@ad7 _ _ _ _))) (@o4 _)) (@dd6 _ _ _ _ _ (@de6 _ (2) _ _ _ _ _ ["NoTurn","NoNumber","NoFit","TooMany","NoRoot","NoRounds","NoKind","NoText","NoName","NoRow"] (by decide+kernel) X6.nd rfl (Or.inl rfl) (by rfl) (by first|exact .inl rfl|exact .inr rfl|assumption)) (@g6 _ _ _ (@l8 _ _ _ _ (@J9 _ _ _ _ _ _ _ C5 (pv 2) (@cr2 _ K _ _ _ _ _ _ (pv 1) (@c5 _ _ _ _ _ (@Q3 _ _ _ _) (@c6 _) (by rfl)) (by rfl) (by rfl) (by rfl) (by rfl) (by rfl) (by rfl)) (fun _ _=>rfl))))))))),?_⟩
   refine ck8 ?_;intros
   try dsimp only[x9,Cx.nox,Cx.wish]
   have IC:=ER.inst (n,C) hn;have p0:=ER.pair (n,C) hn ("NoTurn",q_NoTurn) (by simp);have p1:=ER.pair (n,C) hn ("NoNumber",q_NoNumber) (by simp);have p2:=ER.pair (n,C) hn ("NoFit",q_NoFit) (by simp);have p3:=ER.pair (n,C) hn ("TooMany",q_TooMany) (by simp);have p4:=ER.pair (n,C) hn ("NoRoot",q_NoRoot) (by simp);have p5:=ER.pair (n,C) hn ("NoRounds",q_NoRounds) (by simp);have p6:=ER.pair (n,C) hn ("NoKind",q_NoKind) (by simp);have p7:=ER.pair (n,C) hn ("NoText",q_NoText) (by simp);have p8:=ER.pair (n,C) hn ("NoName",q_NoName) (by simp);have p9:=ER.pair (n,C) hn ("NoRow",q_NoRow) (by simp);obtain ⟨k0,hk0⟩:∃b,b=decide (n="NoTurn"):=⟨_,rfl⟩;obtain ⟨k1,hk1⟩:∃b,b=decide (n="NoNumber"):=⟨_,rfl⟩;obtain ⟨k2,hk2⟩:∃b,b=decide (n="NoFit"):=⟨_,rfl⟩;obtain ⟨k3,hk3⟩:∃b,b=decide (n="TooMany"):=⟨_,rfl⟩;obtain ⟨k4,hk4⟩:∃b,b=decide (n="NoRoot"):=⟨_,rfl⟩;obtain ⟨k5,hk5⟩:∃b,b=decide (n="NoRounds"):=⟨_,rfl⟩;obtain ⟨k6,hk6⟩:∃b,b=decide (n="NoKind"):=⟨_,rfl⟩;obtain ⟨k7,hk7⟩:∃b,b=decide (n="NoText"):=⟨_,rfl⟩;obtain ⟨k8,hk8⟩:∃b,b=decide (n="NoName"):=⟨_,rfl⟩;obtain ⟨k9,hk9⟩:∃b,b=decide (n="NoRow"):=⟨_,rfl⟩
   replace p0:=p0.trans (congrArg some hk0.symm)
   replace p1:=p1.trans (congrArg some hk1.symm)
   replace p2:=p2.trans (congrArg some hk2.symm)
   replace p3:=p3.trans (congrArg some hk3.symm)
   replace p4:=p4.trans (congrArg some hk4.symm)
   replace p5:=p5.trans (congrArg some hk5.symm)
   replace p6:=p6.trans (congrArg some hk6.symm)
   replace p7:=p7.trans (congrArg some hk7.symm)
   replace p8:=p8.trans (congrArg some hk8.symm)
   replace p9:=p9.trans (congrArg some hk9.symm)
   refine ⟨_,rfl,a,C,_,_,_,rfl,.inl ⟨_,rfl,rfl⟩,hH,IC,p0,_,rfl,a,C,_,_,_,rfl,.inl ⟨_,rfl,rfl⟩,hH,IC,p1,_,rfl,a,C,_,_,_,rfl,.inl ⟨_,rfl,rfl⟩,hH,IC,p2,(show 3<=sizeLine by decide),fun l1 h1=> ?_⟩;obtain ⟨H1,eH1⟩:∃Hn,Hn=c9 H l1 (.lst [V.bl (k0),V.bl (k1),V.bl (k2)]):=⟨_,rfl⟩;have sH1:e8 H H1:=eH1▸e8.upd_new h1
   have gH1:H1 l1=some (.lst [V.bl (k0),V.bl (k1),V.bl (k2)]):=by rw[eH1];exact c8
   refine eH1▸(?_:t7 _ _ _ _ H1);have a1:=sH1 a _ hH;refine ⟨_,rfl,_,rfl,a,C,_,_,_,rfl,.inl ⟨_,rfl,rfl⟩,a1,IC,p3,_,rfl,a,C,_,_,_,rfl,.inl ⟨_,rfl,rfl⟩,a1,IC,p4,_,rfl,a,C,_,_,_,rfl,.inl ⟨_,rfl,rfl⟩,a1,IC,p5,(show 3<=sizeLine by decide),fun l2 h2=> ?_⟩;obtain ⟨H2,eH2⟩:∃Hn,Hn=c9 H1 l2 (.lst [V.bl (k3),V.bl (k4),V.bl (k5)]):=⟨_,rfl⟩;have sH2:e8 H1 H2:=eH2▸e8.upd_new h2
   have gH2:H2 l2=some (.lst [V.bl (k3),V.bl (k4),V.bl (k5)]):=by rw[eH2];exact c8
   refine ⟨l1,l2,[V.bl (k0),V.bl (k1),V.bl (k2)],[V.bl (k3),V.bl (k4),V.bl (k5)],rfl,rfl,e8.upd_new h2 _ _ gH1,c8,(show 6<=sizeLine by decide),fun l3 h3=> ?_⟩;have h3:H2 l3=none:=eH2▸h3;obtain ⟨H3,eH3⟩:∃Hn,Hn=c9 H2 l3 (.lst [V.bl (k0),V.bl (k1),V.bl (k2),V.bl (k3),V.bl (k4),V.bl (k5)]):=⟨_,rfl⟩;have sH3:e8 H2 H3:=eH3▸e8.upd_new h3
   have gH3:H3 l3=some (.lst [V.bl (k0),V.bl (k1),V.bl (k2),V.bl (k3),V.bl (k4),V.bl (k5)]):=by rw[eH3];exact c8
   refine (show c9 (c9 H1 l2 _) l3 _=H3 by rw[eH3,eH2])▸(?_:t7 _ _ _ _ H3);have a3:=sH3 a _ (sH2 a _ a1);refine ⟨_,rfl,_,rfl,a,C,_,_,_,rfl,.inl ⟨_,rfl,rfl⟩,a3,IC,p6,_,rfl,a,C,_,_,_,rfl,.inl ⟨_,rfl,rfl⟩,a3,IC,p7,_,rfl,a,C,_,_,_,rfl,.inl ⟨_,rfl,rfl⟩,a3,IC,p8,(show 3<=sizeLine by decide),fun l4 h4=> ?_⟩;obtain ⟨H4,eH4⟩:∃Hn,Hn=c9 H3 l4 (.lst [V.bl (k6),V.bl (k7),V.bl (k8)]):=⟨_,rfl⟩;have sH4:e8 H3 H4:=eH4▸e8.upd_new h4
   have gH4:H4 l4=some (.lst [V.bl (k6),V.bl (k7),V.bl (k8)]):=by rw[eH4];exact c8
   refine ⟨l3,l4,[V.bl (k0),V.bl (k1),V.bl (k2),V.bl (k3),V.bl (k4),V.bl (k5)],[V.bl (k6),V.bl (k7),V.bl (k8)],rfl,rfl,e8.upd_new h4 _ _ gH3,c8,(show 9<=sizeLine by decide),fun l5 h5=> ?_⟩;have h5:H4 l5=none:=eH4▸h5;obtain ⟨H5,eH5⟩:∃Hn,Hn=c9 H4 l5 (.lst [V.bl (k0),V.bl (k1),V.bl (k2),V.bl (k3),V.bl (k4),V.bl (k5),V.bl (k6),V.bl (k7),V.bl (k8)]):=⟨_,rfl⟩;have sH5:e8 H4 H5:=eH5▸e8.upd_new h5
   have gH5:H5 l5=some (.lst [V.bl (k0),V.bl (k1),V.bl (k2),V.bl (k3),V.bl (k4),V.bl (k5),V.bl (k6),V.bl (k7),V.bl (k8)]):=by rw[eH5];exact c8
   refine (show c9 (c9 H3 l4 _) l5 _=H5 by rw[eH5,eH4])▸(?_:t7 _ _ _ _ H5);have a5:=sH5 a _ (sH4 a _ a3);refine ⟨_,rfl,.inl ⟨rfl,_,h8.of gH5⟩,_,rfl,a,C,_,_,_,rfl,.inl ⟨_,rfl,rfl⟩,a5,IC,p9,l5,_,_,rfl,rfl,gH5,(show 10<=sizeLine by decide),?_⟩;have S5:e8 H H4:=sH1.trans (sH2.trans (sH3.trans sH4));obtain ⟨H6,eH6⟩:∃Hn,Hn=c9 H5 l5 (.lst [V.bl (k0),V.bl (k1),V.bl (k2),V.bl (k3),V.bl (k4),V.bl (k5),V.bl (k6),V.bl (k7),V.bl (k8),V.bl (k9)]):=⟨_,rfl⟩
   have gH6:H6 l5=some (.lst [V.bl (k0),V.bl (k1),V.bl (k2),V.bl (k3),V.bl (k4),V.bl (k5),V.bl (k6),V.bl (k7),V.bl (k8),V.bl (k9)]):=by rw[eH6];exact c8
   have s6:e8 H H6:=eH6▸(S5.trans sH5).upd_r (S5.free h5);have a6:=s6 a _ hH;refine eH6▸(?_:t7 _ _ _ _ H6);obtain ⟨kl,fl,cnt,j,hj,wj,kj,kb⟩:=dg5 hn (ks:=[V.bl (k0),V.bl (k1),V.bl (k2),V.bl (k3),V.bl (k4),V.bl (k5),V.bl (k6),V.bl (k7),V.bl (k8),V.bl (k9)]) (by rw[hk0,hk1,hk2,hk3,hk4,hk5,hk6,hk7,hk8,hk9]);generalize [V.bl (k0),V.bl (k1),V.bl (k2),V.bl (k3),V.bl (k4),V.bl (k5),V.bl (k6),V.bl (k7),V.bl (k8),V.bl (k9)]=ks at gH6 kl fl cnt kj kb;refine ⟨_,rfl,.inl ⟨rfl,_,h8.of gH6⟩,⟨l5,ks,.bl true,rfl,rfl,rfl,fl,gH6,?_⟩⟩;rw[cnt];refine ⟨rfl,_,rfl,?_⟩;refine C0 ⟨_,rfl,a,C,_,_,_,rfl,.inr ⟨_,rfl,rfl⟩,a6,IC,ER.ve (n,C) hn,_,rfl,?_⟩;refine C0 ?_;refine ⟨(show 10<=sizeLine by decide),fun l7 h7=> ?_⟩;have hjk:j < ks.length:=(dz2.mp kj).1;refine ⟨_,rfl,_,rfl,.inl ⟨rfl,_,h8.of (e8.upd_new h7 _ _ gH6)⟩,⟨l5,ks,.bl true,j,rfl,rfl,rfl,fl,e8.upd_new h7 _ _ gH6,⟨_,kj,rfl⟩,fun i y hi e=> ?_,?_,?_⟩⟩
   · rw[kb i hi] at e;cases e;rfl
   · omega
   · refine ⟨l7,_,_,_,rfl,rfl,h8.of c8,G9 (by rw[dz4,wj];rfl),q _ (s6.trans (e8.upd_new h7))⟩
end
end My
namespace My
local macro_rules|`(tactic|omega)=>`(tactic|lia)
open PySem L2 Mth
section
variable {P:Program} {w:World} {K:PySem.W.Frag} {mg:Str->Option Value} {base:Heap} {q_TurnError q_NoTurn q_NoFit q_NoRounds q_NoNumber q_NoRoot q_TooMany q_NoKind q_NoText q_NoName q_NoRow:Addr}
def m8:Nat->Nat
 |0=>1
 |n+1=>(n+1)*m8 n
theorem Z6:∀n,0 < m8 n
 |0=>by decide
 |n+1=>eg7 (Nat.succ_pos n) (Z6 n)
def B0:Nat->Nat->Nat
 |_,0=>1
 |0,_+1=>0
 |n+1,k+1=>B0 n k+B0 n (k+1)
theorem aj2:∀{n k:Nat},n < k->B0 n k=0
 |0,k+1,_=>rfl
 |n+1,k+1,h=>by
  show B0 n k+B0 n (k+1)=0;rw[aj2 (show n < k by omega),aj2 (show n < k+1 by omega)]
theorem ag8:∀{n k:Nat},k<=n->B0 n k*(m8 k*m8 (n - k))=m8 n
 |n,0,_=>by
  cases n<;>simp [B0,m8]
 |n+1,k+1,h=>by
  have a:=ag8 (n:=n) (k:=k) (by omega);show (B0 n k+B0 n (k+1))*(m8 (k+1)*m8 (n+1 - (k+1)))=m8 (n+1);rw[show n+1 - (k+1)=n - k by omega,el7]
  have e1:B0 n k*(m8 (k+1)*m8 (n - k))=(k+1)*m8 n:=by
    rw[<-a];show B0 n k*(((k+1)*m8 k)*m8 (n - k))=_
    ac_rfl
  rw[e1]
  by_cases z:k=n
  · subst z;rw[aj2 (show k < k+1 by omega),ee5,eg8];rfl
  · have b:=ag8 (n:=n) (k:=k+1) (by omega)
    have e2:B0 n (k+1)*(m8 (k+1)*m8 (n - k))=(n - k)*m8 n:=by
      rw[<-b,show n - k=(n - (k+1))+1 by omega];show B0 n (k+1)*(m8 (k+1)*((n - (k+1)+1)*m8 (n - (k+1))))=_
      ac_rfl
    rw[e2,<-el7,show k+1+(n - k)=n+1 by omega];rfl
def E5 (d:Nat):Nat->Nat->Nat
 |_,0=>1
 |0,_+1=>0
 |n+1,k+1=>B0 n (d - 1)*E5 d (n+1 - d) k+E5 d n (k+1)
termination_by n k=>n+k
decreasing_by all_goals omega
theorem ad5 (d n:Nat):E5 d n 0=1:=by cases n<;>simp [E5]
theorem bq5 (d k:Nat):E5 d 0 (k+1)=0:=by simp [E5]
theorem at8 (d n k:Nat):E5 d (n+1) (k+1)=B0 n (d - 1)*E5 d (n+1 - d) k+E5 d n (k+1):=by rw[E5]
theorem S2 {d:Nat}(hd:1<=d):∀(n k:Nat),n < k*d->E5 d n k=0
 |n,0,h=>by omega
 |0,k+1,h=>bq5 d k
 |n+1,k+1,h=>by
  rw[at8];have e:(k+1)*d=k*d+d:=ej9 k d;rw[S2 hd n (k+1) (by omega),eg8]
  by_cases z:n < d - 1
  · rw[aj2 z,ee5]
  · rw[S2 hd (n+1 - d) k (by omega),eh5]
termination_by n k=>n+k
theorem ae4 {d:Nat}(hd:1<=d):∀(n k:Nat),k*d<=n->E5 d n k*(m8 (n - k*d)*m8 d^k*m8 k)=m8 n
 |n,0,h=>by rw[ad5];simp [m8]
 |0,k+1,h=>by
  have e:(k+1)*d=k*d+d:=ej9 k d;omega
 |n+1,k+1,h=>by
  have e:(k+1)*d=k*d+d:=ej9 k d;rw[at8,el7];have a:=ae4 hd (n+1 - d) k (by omega);have c:=ag8 (n:=n) (k:=d - 1) (by omega);obtain ⟨d',rfl⟩:∃d',d=d'+1:=⟨d - 1,by omega⟩;rw[show n - (d'+1 - 1)=n+1 - (d'+1) by omega] at c
  have e1:B0 n (d'+1 - 1)*E5 (d'+1) (n+1 - (d'+1)) k*(m8 (n+1 - (k+1)*(d'+1))*m8 (d'+1)^(k+1)*m8 (k+1))=(d'+1)*(k+1)*m8 n:=by
    rw[show n+1 - (k+1)*(d'+1)=n+1 - (d'+1) - k*(d'+1) by omega,<-c,<-a,ek9];rw[show m8 (d'+1)=(d'+1)*m8 (d'+1 - 1) from rfl,show m8 (k+1)=(k+1)*m8 k from rfl]
    ac_rfl
  rw[e1]
  by_cases z:(k+1)*(d'+1)=n+1
  · rw[S2 hd n (k+1) (by omega),ee5,eg8,ef5 (d'+1),z];rfl
  · have b:=ae4 hd n (k+1) (by omega)
    have e2:E5 (d'+1) n (k+1)*(m8 (n+1 - (k+1)*(d'+1))*m8 (d'+1)^(k+1)*m8 (k+1))=(n+1 - (k+1)*(d'+1))*m8 n:=by
      rw[<-b,show n+1 - (k+1)*(d'+1)=(n - (k+1)*(d'+1))+1 by omega];rw[show m8 (n - (k+1)*(d'+1)+1)=(n - (k+1)*(d'+1)+1)*m8 (n - (k+1)*(d'+1)) from rfl]
      ac_rfl
    rw[e2,<-el7,ef5 (d'+1),show (k+1)*(d'+1)+(n+1 - (k+1)*(d'+1))=n+1 by omega];rfl
termination_by n k=>n+k
theorem ck9 {d n e k:Nat}(hd:1<=d)(he:1<=e)(h:k*d+e<=n):B0 (n - 1) (e - 1)*E5 d (n - e) k=E5 d (n - 1) k*B0 (n - k*d - 1) (e - 1):=by
 have a:=ag8 (n:=n - 1) (k:=e - 1) (by omega);have b:=ae4 hd (n - e) k (by omega);have c:=ae4 hd (n - 1) k (by omega);have f:=ag8 (n:=n - k*d - 1) (k:=e - 1) (by omega);rw[show n - 1 - (e - 1)=n - e by omega] at a;rw[show n - e - k*d=n - k*d - e by omega] at b;rw[show n - 1 - k*d=n - k*d - 1 by omega] at c;rw[show n - k*d - 1 - (e - 1)=n - k*d - e by omega] at f;have pos:0 < m8 (e - 1)*(m8 (n - k*d - e)*m8 d^k*m8 k):=eg7 (Z6 _) (eg7 (eg7 (Z6 _) (Nat.pow_pos (Z6 _))) (Z6 _));refine eo3 pos ?_
 have x:B0 (n - 1) (e - 1)*E5 d (n - e) k*(m8 (e - 1)*(m8 (n - k*d - e)*m8 d^k*m8 k))=m8 (n - 1):=by
   rw[<-a,<-b];ac_rfl
 have y:E5 d (n - 1) k*B0 (n - k*d - 1) (e - 1)*(m8 (e - 1)*(m8 (n - k*d - e)*m8 d^k*m8 k))=m8 (n - 1):=by
   rw[<-c,<-f];ac_rfl
 rw[x,y]
theorem ay3 {l:Nat}:∀{n d:Nat},d+1<=n->r6 n l d=B0 (n - 1) d*(m8 d*l^d):=by
 have fall:∀(d n:Nat),d+1<=n->r6 n l d*m8 (n - 1 - d)=m8 (n - 1)*l^d:=by
   intro d
   induction d with
   |zero=>intro n h;simp [r6]
   |succ d ih=>
    intro n h;have:=ih n (by omega);show r6 n l d*(n - (d+1))*l*m8 (n - 1 - (d+1))=_;rw[ek9,<-eg1,<-this];rw[show n - 1 - d=(n - 1 - (d+1))+1 by omega];rw[show m8 (n - 1 - (d+1)+1)=(n - 1 - (d+1)+1)*m8 (n - 1 - (d+1)) from rfl,show n - (d+1)=n - 1 - (d+1)+1 by omega]
    ac_rfl
 intro n d h;refine eo3 (Z6 (n - 1 - d)) ?_;rw[fall d n h,<-ag8 (n:=n - 1) (k:=d) (by omega)]
 ac_rfl
def E8:Nat->(Nat->Nat)->Nat
 |0,_=>0
 |n+1,f=>E8 n f+f n
theorem Q1 {f g:Nat->Nat}:∀{n:Nat},(∀k,k < n->f k=g k)->E8 n f=E8 n g
 |0,_=>rfl
 |n+1,h=>by
  show E8 n f+f n=E8 n g+g n;rw[Q1 fun k hk=>h k (by omega),h n (by omega)]
theorem bf0 (f g:Nat->Nat):∀n,E8 n (fun k=>f k+g k)=E8 n f+E8 n g
 |0=>rfl
 |n+1=>by
  show E8 n (fun k=>f k+g k)+(f n+g n)=E8 n f+f n+(E8 n g+g n);rw[bf0 f g n];omega
theorem au0 (c:Nat)(f:Nat->Nat):∀n,c*E8 n f=E8 n fun k=>c*f k
 |0=>rfl
 |n+1=>by
  show c*(E8 n f+f n)=E8 n (fun k=>c*f k)+c*f n;rw[er8,au0 c f n]
theorem ag1 (f:Nat->Nat):∀n,E8 (n+1) f=f 0+E8 n fun k=>f (k+1)
 |0=>by show 0+f 0=f 0+0;omega
 |n+1=>by
  show E8 (n+1) f+f (n+1)=f 0+(E8 n (fun k=>f (k+1))+f (n+1));rw[ag1 f n];omega
theorem cs6 {f:Nat->Nat}{n m:Nat}(h:n<=m)(z:∀k,n<=k->k < m->f k=0):E8 m f=E8 n f:=by
 induction m with
 |zero=>rw[show n=0 by omega]
 |succ m ih=>
  by_cases e:n=m+1
  · rw[e]
  · show E8 m f+f m=E8 n f;rw[ih (by omega) fun k h1 h2=>z k h1 (by omega),z m (by omega) (by omega)];rfl
theorem ak6 {f:Nat->Nat}:∀{n:Nat},(∀k,k < n->f k=0)->E8 n f=0
 |0,_=>rfl
 |n+1,h=>by
  show E8 n f+f n=0;rw[ak6 fun k hk=>h k (by omega),h n (by omega)]
def N0 (rs:List Nat)(f:Nat->Nat):Nat:=(rs.map f).sum
theorem N3 (r:Nat)(rs:List Nat)(f:Nat->Nat):N0 (r::rs) f=f r+N0 rs f:=by unfold N0;rw[ed3,et1]
theorem cs7 (r:Nat)(rs:List Nat)(f:Nat->Nat):N0 (rs++[r]) f=N0 rs f+f r:=by unfold N0;rw[dz6,en2];simp
theorem W5 {f g:Nat->Nat}:∀{rs:List Nat},(∀r∈rs,f r=g r)->N0 rs f=N0 rs g
 |[],_=>rfl
 |r::rs,h=>by rw[N3,N3,h r dz7,W5 fun x hx=>h x (ea0 _ hx)]
theorem bf1 (c:Nat)(f:Nat->Nat):∀rs,c*N0 rs f=N0 rs fun r=>c*f r
 |[]=>rfl
 |r::rs=>by rw[N3,N3,er8,bf1 c f rs]
theorem bz7 (n:Nat)(f:Nat->Nat->Nat):∀rs:List Nat,N0 rs (fun r=>E8 n (f r))=E8 n fun k=>N0 rs fun r=>f r k
 |[]=>by
  have:∀n,E8 n (fun k=>N0 [] fun r=>f r k)=0:=fun n=>by
    induction n with
    |zero=>rfl
    |succ n ih=>show E8 n _+0=0;rw[ih]
  rw[this];rfl
 |r::rs=>by
  rw[N3,bz7 n f rs,<-bf0]
  exact Q1 fun k _=>by rw[N3]
def Jn (l:Nat)(rs:List Nat)(j:Nat->Nat):Prop:=j 0=1/\∀n,1<=n->j n=N0 rs fun d=>if d<=n then r6 n l (d - 1)*j (n - d) else 0
def M3 (l d:Nat):Nat:=m8 (d - 1)*l^(d - 1)
theorem Jn.more {l d:Nat}{rs:List Nat}{j i:Nat->Nat}(hd:1<=d)(h1:∀r∈rs,1<=r)(hj:Jn l rs j)(hi:Jn l (rs++[d]) i):∀n N:Nat,n < N->i n=E8 N fun k=>E5 d n k*M3 l d^k*j (n - k*d):=by
 intro n
 induction n using Nat.strongRecOn with
 |ind n ih=>
 intro N hN;obtain ⟨N,rfl⟩:∃m,N=m+1:=⟨N - 1,by omega⟩
 rcases el6 n with rfl|n1
 · rw[hi.1,ag1,ad5,ep3,ee5,Nat.sub_zero,hj.1];rw[ak6 fun k _=>by rw[bq5,ee5,ee5]]
 rw[hi.2 n n1,cs7]
 have A:(N0 rs fun e=>if e<=n then r6 n l (e - 1)*i (n - e) else 0)=E8 (N+1) fun k=>E5 d (n - 1) k*M3 l d^k*(if k*d < n then j (n - k*d) else 0):=by
   have a1:(N0 rs fun e=>if e<=n then r6 n l (e - 1)*i (n - e) else 0)=N0 rs fun e=>E8 (N+1) fun k=>M3 l d^k*(if e<=n then r6 n l (e - 1)*E5 d (n - e) k*j (n - e - k*d) else 0):=by
     refine W5 fun e he=> ?_
     have e1:=h1 e he
     by_cases c:e<=n
     · rw[if_pos c,ih (n - e) (by omega) (N+1) (by omega),au0]
       refine Q1 fun k _=> ?_
       rw[if_pos c];ac_rfl
     · rw[if_neg c,ak6 fun k _=>by rw[if_neg c,eh5]]
   rw[a1,bz7]
   refine Q1 fun k _=> ?_
   rw[<-bf1]
   by_cases c:k*d < n
   · rw[if_pos c,hj.2 (n - k*d) (by omega)]
     have:(N0 rs fun e=>if e<=n then r6 n l (e - 1)*E5 d (n - e) k*j (n - e - k*d) else 0)=E5 d (n - 1) k*N0 rs fun e=>if e<=n - k*d then r6 (n - k*d) l (e - 1)*j (n - k*d - e) else 0:=by
       rw[bf1]
       refine W5 fun e he=> ?_
       have e1:=h1 e he
       by_cases c2:e<=n - k*d
       · rw[if_pos c2,if_pos (by omega),ay3 (show e - 1+1<=n by omega),ay3 (show e - 1+1<=n - k*d by omega),show n - e - k*d=n - k*d - e by omega];have s:=ck9 (d:=d) (n:=n) (e:=e) (k:=k) hd e1 (by omega)
         have:B0 (n - 1) (e - 1)*(m8 (e - 1)*l^(e - 1))*E5 d (n - e) k=E5 d (n - 1) k*(B0 (n - k*d - 1) (e - 1)*(m8 (e - 1)*l^(e - 1))):=by
           calc _=(B0 (n - 1) (e - 1)*E5 d (n - e) k)*(m8 (e - 1)*l^(e - 1)):=by ac_rfl
             _=_:=by rw[s];ac_rfl
         rw[this];ac_rfl
       · rw[if_neg c2,eh5]
         by_cases c3:e<=n
         · rw[if_pos c3,S2 hd (n - e) k (by omega),eh5,ee5]
         · rw[if_neg c3]
     rw[this];ac_rfl
   · rw[if_neg c,eh5]
     have:(N0 rs fun e=>if e<=n then r6 n l (e - 1)*E5 d (n - e) k*j (n - e - k*d) else 0)=N0 rs fun _=>0:=W5 fun e he=>by
       have e1:=h1 e he
       by_cases c3:e<=n
       · rw[if_pos c3,S2 hd (n - e) k (by omega),eh5,ee5]
       · rw[if_neg c3]
     have z:∀rs:List Nat,(N0 rs fun _=>0)=0:=fun rs=>by
       induction rs with
       |nil=>rfl
       |cons r rs ih=>rw[N3,ih]
     rw[this,z,eh5]
 have B:(if d<=n then r6 n l (d - 1)*i (n - d) else 0)=E8 N fun k=>B0 (n - 1) (d - 1)*E5 d (n - d) k*M3 l d^(k+1)*j (n - (k+1)*d):=by
   by_cases c:d<=n
   · rw[if_pos c,ay3 (show d - 1+1<=n by omega),ih (n - d) (by omega) N (by omega),au0]
     refine Q1 fun k _=> ?_
     rw[ek9,show n - d - k*d=n - (k+1)*d by rw[ej9];omega];unfold M3
     ac_rfl
   · rw[if_neg c];rw[ak6 fun k _=>by rw[aj2 (show n - 1 < d - 1 by omega),ee5,ee5,ee5]]
 rw[A,B,ag1,ag1 (fun k=>E5 d n k*M3 l d^k*j (n - k*d)),eo5,<-bf0]
 congr 1
 · rw[ad5,ad5,ee5,if_pos n1]
 · refine Q1 fun k _=> ?_
   obtain ⟨m,rfl⟩:∃m,n=m+1:=⟨n - 1,by omega⟩;rw[at8,er4]
   by_cases c:(k+1)*d < m+1
   · rw[if_pos c,<-el7,<-el7,eh2]
   · rw[if_neg c,eh5,ek0,S2 hd m (k+1) (by omega),eg8 (B0 m (d - 1)*_)]
theorem Jn.none {l:Nat}{j:Nat->Nat}(h:Jn l [] j){n:Nat}(n1:1<=n):j n=0:=h.2 n n1
def jf (l:Nat)(rs:List Nat)(n:Nat):Nat:=(G4 l rs n).getD n 0
theorem bq6 (l:Nat)(rs:List Nat):∀(k i:Nat),i<=k->(G4 l rs k).getD i 0=jf l rs i
 |0,i,h=>by rw[show i=0 by omega];rfl
 |k+1,i,h=>by
  by_cases e:i=k+1
  · rw[e];rfl
  · show (G4 l rs k++[_]).getD i 0=_;rw[dz5,eb6 (by rw[Q0];omega),<-dz5];exact bq6 l rs k i (by omega)
theorem bc8 (n:Nat)(f:Nat->Nat):∀rs:List Nat,((rs.filter fun d=>decide (d<=n)).map f).sum=N0 rs fun d=>if d<=n then f d else 0
 |[]=>rfl
 |r::rs=>by
  rw[N3,<-bc8 n f rs]
  by_cases c:r<=n
  · rw[eh7 (by simpa using c),ed3,et1,if_pos c]
  · rw[eh8 (by simpa using c),if_neg c,ek0]
theorem au1 {l:Nat}{rs:List Nat}(h1:∀d∈rs,1<=d):Jn l rs (jf l rs):=by
 refine ⟨rfl,fun n n1=> ?_⟩;obtain ⟨k,rfl⟩:∃k,n=k+1:=⟨n - 1,by omega⟩;show (G4 l rs k++[_]).getD (k+1) 0=_;rw[dz5,eb9 (by rw[Q0];omega),Q0,ek1];show at6 l rs (G4 l rs k) (k+1)=_;unfold at6;rw[bc8]
 refine W5 fun d hd=> ?_
 have:=h1 d hd
 by_cases c:d<=k+1
 · rw[if_pos c,if_pos c,bq6 l rs k _ (by omega)]
 · rw[if_neg c,if_neg c]
theorem dg6 {l:Nat}{rs:List Nat}(h1:∀d∈rs,1<=d){a d left:Nat}(ha:rs[a]? =some d):jf l (rs.take (a+1)) left=E8 (left/d+1) fun k=>E5 d left k*M3 l d^k*jf l (rs.take a) (left - k*d):=by
 have hd:=h1 d (dz8 ha)
 have t1:∀r∈rs.take a,1<=r:=fun r hr=>h1 r (ef0 hr)
 rw[l6 ha]
 have e:=Jn.more hd t1 (au1 (l:=l) t1) (au1 (l:=l) (rs:=rs.take a++[d]) fun r hr=>by
   rcases ea3.mp hr with z|z
   · exact t1 r z
   · rw[ea1.mp z];exact hd) left (left+1) (by omega)
 rw[e]
 refine cs6 (et4 (Nat.div_le_self _ _)) fun k k1 k2=> ?_
 rw[S2 hd left k (by
   have:left/d < k:=by omega
   exact (Nat.div_lt_iff_lt_mul (by omega)).mp this),ee5,ee5]
theorem dn8 {l n:Nat}(n1:1<=n):jf l [] n=0:=(au1 (l:=l) (rs:=[]) (fun d hd=>by cases hd)).none n1
theorem dg7 (l:Nat)(rs:List Nat):jf l rs 0=1:=rfl
structure Nd where
 left:Nat
 a:Nat
 t:Nat
 b:Nat
 q:Nat
structure bz8 (n:Nat)(rs:List Nat)(x:Nd):Prop where
 le:x.left<=n
 al:x.a<=rs.length
 eq:m8 n*x.t=x.q*x.b*m8 x.left
 b1:1<=x.b
 tb:x.t<=1600^(n - x.left)
 bb:x.b<=1600^(n - x.left)
def ndV (x:Nd):List V:=[.int (x.left:Int),.int ((x.a:Int) - 1),.int (x.t:Int),.int (x.b:Int)]
def X9 (l:Nat)(rs:List Nat)(x:Nd):Nat:=x.q*jf l (rs.take x.a) x.left
def cst (rs:List Nat):Nat->Nat->Nat
 |0,_=>1
 |a+1,left=>1+E8 (left/rs.getD a 1+1) fun k=>cst rs a (left - k*rs.getD a 1)
theorem dg8 (rs:List Nat)(a left:Nat):1<=cst rs a left:=by
 cases a with
 |zero=>exact dz3 _
 |succ a=>show 1<=1+_;omega
def U6 (l d:Nat)(x:Nd)(k:Nat):Nd:=⟨x.left - k*d,x.a - 1,x.t*M3 l d^k,x.b*m8 d^k*m8 k,x.q*E5 d x.left k*M3 l d^k⟩
theorem ap1:∀{n:Nat},n<=40->m8 n<=40^n
 |0,_=>dz3 _
 |n+1,h=>by
  show (n+1)*m8 n<=40^n*40;rw[ef5];exact eg3 (ap1 (by omega)) h
theorem cs8 {l d:Nat}(hl:l<=40)(hd:d<=40):M3 l d<=1600^(d - 1):=by
 unfold M3;rw[show 1600=40*40 from rfl,Nat.mul_pow];exact eg3 (ap1 (by omega)) (el1 hl _)
theorem bz9 {l n d:Nat}{rs:List Nat}{x:Nd}(h:bz8 n rs x)(hl:l<=40)(hn:n<=40)(d1:1<=d)(d2:d<=40){k:Nat}(hk:k*d<=x.left):bz8 n rs (U6 l d x k):=by
 have hle:=h.le;have hal:=h.al;refine ⟨by show x.left - k*d<=n;omega,by show x.a - 1<=rs.length;omega,?_,?_,?_,?_⟩
 · show m8 n*(x.t*M3 l d^k)=x.q*E5 d x.left k*M3 l d^k*(x.b*m8 d^k*m8 k)*m8 (x.left - k*d);rw[<-eg1,h.eq,<-ae4 d1 x.left k hk]
   ac_rfl
 · show 1<=x.b*m8 d^k*m8 k;exact eg7 (eg7 h.b1 (Nat.pow_pos (Z6 _))) (Z6 _)
 · show x.t*M3 l d^k<=1600^(n - (x.left - k*d));rw[show n - (x.left - k*d)=(n - x.left)+k*d by omega,ev5];refine eg3 h.tb (ea4 (el1 (cs8 hl d2) k) ?_);rw[<-er9,ef5];exact ei1 (by decide) (eq7 _ (by omega))
 · show x.b*m8 d^k*m8 k<=1600^(n - (x.left - k*d));rw[show n - (x.left - k*d)=(n - x.left)+k*d by omega,ev5,eg1];refine eg3 h.bb ?_;have kd:k<=k*d:=ed5 _ d1;rw[show 1600=40*40 from rfl,Nat.mul_pow];refine eg3 ?_ (ea4 (ap1 (by omega)) (ei1 (by decide) kd));rw[ef5 k d,er9];exact el1 (ap1 d2) k
theorem bf2 (f:Nat->Nat):∀n,((ed0 n).map f).sum=E8 n f
 |0=>rfl
 |n+1=>by rw[ej6,dz6,en2,bf2 f n];simp [E8]
theorem dn9 (q:Nat)(f:Nat->Nat)(n:Nat):E8 n (fun k=>q*f k)=q*E8 n f:=(au0 q f n).symm
theorem dg9 {l:Nat}{rs:List Nat}(h1:∀d∈rs,1<=d){x:Nd}{a d:Nat}(ha:x.a=a+1)(hd:rs[a]? =some d):((ed0 (x.left/d+1)).map fun k=>X9 l rs (U6 l d x k)).sum=X9 l rs x:=by
 rw[bf2];unfold X9;rw[ha,dg6 h1 hd,<-dn9]
 refine Q1 fun k _=> ?_
 show x.q*E5 d x.left k*M3 l d^k*jf l (rs.take (x.a - 1)) (x.left - k*d)=_;rw[ha,er4]
 ac_rfl
theorem dh0 {l:Nat}{rs:List Nat}{x:Nd}{a d:Nat}(ha:x.a=a+1)(hd:rs[a]? =some d):((ed0 (x.left/d+1)).map fun k=>cst rs (U6 l d x k).a (U6 l d x k).left).sum+1=cst rs x.a x.left:=by
 rw[bf2,ha]
 show _=1+E8 (x.left/rs.getD a 1+1) fun k=>cst rs a (x.left - k*rs.getD a 1)
 rw[dz5,hd]
 show _=1+E8 (x.left/d+1) fun k=>cst rs a (x.left - k*d)
 rw[eh2]
 congr 1
 refine Q1 fun k _=> ?_
 show cst rs (x.a - 1) (x.left - k*d)=_;rw[ha,er4]
structure O6 (H:Hp)(pl:Addr)(n:Nat)(rs:List Nat)(ts:List Addr)(nds:List Nd):Prop where
 at_:H pl=some (.lst (ts.map V.ref))
 len:ts.length=nds.length
 tup:∀(i:Nat) t x,ts[i]? =some t->nds[i]? =some x->H t=some (.tup (ndV x))
 ok:∀x∈nds,bz8 n rs x
 lev:∀(i:Nat) x,nds[i]? =some x->x.a+i/42<=rs.length
 ne:∀t∈ts,t≠pl
theorem O6.few {H:Hp}{pl:Addr}{n:Nat}{rs:List Nat}{ts:List Addr}{nds:List Nd}(h:O6 H pl n rs ts nds)(hr:rs.length<=40):nds.length<=1722:=by
 rcases eu7 nds.length 1723 with z|z
 · omega
 · have:=h.lev 1722 _ (dz1 (by omega));omega
theorem O6.keep {H H':Hp}{pl:Addr}{n:Nat}{rs:List Nat}{ts:List Addr}{nds:List Nd}(h:O6 H pl n rs ts nds)(s:e8 H H'):O6 H' pl n rs ts nds:=
 ⟨s _ _ h.at_,h.len,fun i t x a b=>s _ _ (h.tup i t x a b),h.ok,h.lev,h.ne⟩
theorem O6.push {H:Hp}{pl t:Addr}{n:Nat}{rs:List Nat}{ts:List Addr}{nds:List Nd}{x:Nd}(h:O6 H pl n rs ts nds)(ht:H t=some (.tup (ndV x)))(ox:bz8 n rs x)(lx:x.a+nds.length/42<=rs.length)(nt:t≠pl):O6 (c9 H pl (.lst (ts.map V.ref++[.ref t]))) pl n rs (ts++[t]) (nds++[x]):=by
 have cases_:∀{i:Nat} {y:Nd},(nds++[x])[i]? =some y->nds[i]? =some y\/(i=nds.length/\y=x):=fun {i y} e=>by
   rcases eu7 i nds.length with z|z
   · rw[eb6 z] at e;exact .inl e
   · rw[eb9 z] at e;have i2:i - nds.length < 1:=(dz2.mp e).1
     have:i=nds.length:=by omega
     subst this;rw[ek1] at e;cases e;exact .inr ⟨rfl,rfl⟩
 refine ⟨by rw[c8,dz6];rfl,by rw[dz9,dz9,h.len];rfl,fun i u y eu ey=> ?_,fun y hy=> ?_,fun i y ey=> ?_,fun u hu=> ?_⟩
 · rcases cases_ ey with e|⟨rfl,rfl⟩
   · have il:i < ts.length:=by rw[h.len];exact (dz2.mp e).1
     rw[eb6 il] at eu;rw[g7 (h.ne u (dz8 eu))];exact h.tup i u y eu e
   · rw[eb9 (by rw[h.len];exact dz3 _),h.len,ek1] at eu;cases eu;rw[g7 nt];exact ht
 · rcases ea3.mp hy with z|z
   · exact h.ok y z
   · rw[ea1.mp z];exact ox
 · rcases cases_ ey with e|⟨rfl,rfl⟩
   · exact h.lev i y e
   · exact lx
 · rcases ea3.mp hu with z|z
   · exact h.ne u z
   · rw[ea1.mp z];exact nt
theorem O6.pop {H:Hp}{pl:Addr}{n:Nat}{rs:List Nat}{ts:List Addr}{nds:List Nd}{x:Nd}(h:O6 H pl n rs ts (nds++[x])):∃ts' t,ts=ts'++[t]/\H t=some (.tup (ndV x))/\O6 (c9 H pl (.lst (ts'.map V.ref))) pl n rs ts' nds/\bz8 n rs x/\x.a+nds.length/42<=rs.length:=by
 have l0:ts.length=nds.length+1:=by rw[h.len,dz9];rfl
 obtain ⟨ts',t,rfl⟩:∃ts' t,ts=ts'++[t]:=by
   have ne:ts≠[]:=fun z=>by rw[z] at l0;simp at l0
   exact ⟨ts.dropLast,ts.getLast ne,(en4 ne).symm⟩
 have l1:ts'.length=nds.length:=by rw[dz9] at l0;simp at l0;exact l0
 have ex:(nds++[x])[nds.length]? =some x:=by rw[eb9 (dz3 _),ek1];rfl
 have et:(ts'++[t])[nds.length]? =some t:=by rw[eb9 (by omega),l1,ek1];rfl
 refine ⟨ts',t,rfl,h.tup _ t x et ex,⟨c8,l1,fun i u y eu ey=> ?_,fun y hy=>h.ok y (ed9 _ hy),fun i y ey=>h.lev i y ?_,fun u hu=>h.ne u (ed9 _ hu)⟩,h.ok x (ea9 _ (ea1.mpr rfl)),h.lev _ x ex⟩
 · rw[g7 (h.ne u (ed9 _ (dz8 eu)))];refine h.tup i u y ?_ ?_
   · rw[eb6 (dz2.mp eu).1];exact eu
   · rw[eb6 (dz2.mp ey).1];exact ey
 · rw[eb6 (dz2.mp ey).1];exact ey
end
end My
namespace My
local macro_rules|`(tactic|omega)=>`(tactic|lia)
open PySem L2 Mth
section
variable {P:Program} {w:World} {K:PySem.W.Frag} {mg:Str->Option Value} {base:Heap} {q_TurnError q_NoTurn q_NoFit q_NoRounds q_NoNumber q_NoRoot q_TooMany q_NoKind q_NoText q_NoName q_NoRow:Addr}
def ay4:Sp:=fun vs H Q _=>∃(l m j:Nat),vs=[.int (l:Int),.int (m:Int),.int (j:Int)]/\l<=40/\j<=40/\∀(a:Addr) (H':Hp),H a=none->e8 H H'->H' a=some (.lst ((J7 (A0 l m j)).map V.int))->Q (.ref a) H'
theorem P7:m9 ["l","m","most","found","d","one","other"] ["l","m","most"] (j7 ai6):=⟨rfl,rfl,rfl,by decide+kernel,rfl,by decide+kernel,by decide+kernel⟩
theorem bs6 {f:Addr}{fd:FuncData}(F:C7 K "_law_rights" "_law_rights" ai6 f fd)(B:Bl mg):n6 P w K mg base E9 1 f fd ["l","m","most"] ay4:=by
 refine F.ok P7 (fun vs H Q E h=> ?_) (fun cdv A outer s H vs Q E hr h=> ?_)
 · obtain ⟨l,m,j,rfl,hl,hj,q⟩:=h;rfl
 · obtain ⟨l,m,j,rfl,hl,hj,q⟩:=h;refine ⟨_,@c7 _ _ _ _ _ (@i4 _ _ (3) _ _ _ _ P7.nd rfl (Or.inl rfl) (@o8 _ _ _ _ (@c6 _)) (by rfl) (by first|exact .inl rfl|exact .inr rfl|assumption)) (@c7 _ _ _ _ _ (@o6 _ _ _ _ _ _ _ _ PassesOwn.never rfl (@R8 _ _ _ _ _ _ _ (by rfl) B.range (@c5 _ _ _ _ _ (@g9 _ _ _ _) (@c5 _ _ _ _ _ (@i7 _ _ _ _ _ _ _ _ E7 (pv 2) (@g9 _ _ _ _)) (@c6 _) (by rfl)) (by rfl)) (by rfl) (by rfl)) (@j6 _ _ (4) _ P7.nd rfl (Or.inl rfl) (by first|exact .inl rfl|exact .inr rfl|assumption)) (@c7 _ _ _ _ _ (@i4 _ _ (5) _ _ _ _ P7.nd rfl (Or.inl rfl) (@i7 _ _ _ _ _ _ _ _ O4 (pv 4) (pv 0)) (by rfl) (by first|exact .inl rfl|exact .inr rfl|assumption)) (@c7 _ _ _ _ _ (@i4 _ _ (6) _ _ _ _ P7.nd rfl (Or.inl rfl) (pv 1) (by rfl) (by first|exact .inl rfl|exact .inr rfl|assumption)) (@c7 _ _ _ _ _ (@ab2 _ _ _ _ _ _ PassesOwn.never (@j8 _ _ _ _ _ _ _ _ aq0 (pv 6) (@g9 _ _ _ _) (n5 _)) (@g6 _ _ _ (@di9 _ _ (5) (6) _ _ _ _ _ _ _ _ _ _ _ rfl P7.nd rfl rfl (by decide) rfl rfl (@c5 _ _ _ _ _ (pv 6) (@c5 _ _ _ _ _ (@i7 _ _ _ _ _ _ _ _ C6 (pv 5) (pv 6)) (@c6 _) (by rfl)) (by rfl)) (by rfl) (by rfl)))) (@g6 _ _ _ (@B5 _ _ _ _ _ _ _ _ (@j8 _ _ _ _ _ _ _ _ ad0 (pv 5) (pv 4) (n5 _)) (@g6 _ _ _ (@y6 _ _ _ _ (@E4 _ _ _ _ _ _ _ (pv 3) (@c5 _ _ _ _ _ (pv 4) (@c6 _) (by rfl)) (by rfl) (by rfl) (by rfl) (by rfl) (by rfl)) (by rfl))) (@o4 _)))))) (by intro _;rfl)) (@g6 _ _ _ (@l8 _ _ _ _ (pv 3)))),?_⟩
   try dsimp only[x9,Cx.nox,Cx.wish]
   refine ⟨eb4 _,fun fa nfa=> ?_⟩;refine ⟨_,rfl,_,_,rfl,rfl,1,(j:Int)+1,rfl,⟨by decide,by decide,by omega,by omega⟩,?_⟩;rw[show ((j:Int)+1 - 1).toNat=j by omega]
   refine E3 (lo:=1) (n:=j) (fun i σ H2=>∃v4 v5 v6:Option V,σ=[some (.int (l:Int)),some (.int (m:Int)),some (.int (j:Int)),some (.ref fa),v4,v5,v6]/\H2 fa=some (.lst ((J7 (A0 l m i)).map V.int))/\e8 H H2)
     ⟨none,none,none,rfl,c8,e8.upd_new nfa⟩ ?_ ?_
   · rintro i σ H2 hi ⟨v4,v5,v6,rfl,h2,s2⟩
     have e1:(1:Int)+(i:Int)=((i+1:Nat):Int):=by omega
     refine ⟨_,rfl,_,rfl,_,_,rfl,rfl,.inr ⟨by omega,by omega⟩,_,rfl,?_⟩;refine ⟨fun mm σ H3=>∃x y:Nat,σ=[some (.int (l:Int)),some (.int (m:Int)),some (.int (j:Int)),some (.ref fa),some (.int ((i+1:Nat):Int)),some (.int (x:Int)),some (.int (y:Int))]/\ec8 x y=ec8 ((i+1)*l) m/\H3=H2/\y=mm,⟨m,(i+1)*l,m,?_,rfl,rfl,rfl⟩,?_⟩
     · rw[e1,ed4];rfl
     rintro mm σ H3 ⟨x,y,rfl,eg,rfl,rfl⟩;refine ⟨_,rfl,_,_,rfl,rfl,_,rfl,?_⟩
     by_cases c:y=0
     · subst c;rw[decide_eq_false (by omega)];rw[Nat.gcd_zero_right] at eg;refine ⟨_,rfl,_,rfl,rfl,_,rfl,?_⟩;rw[eg];have li:=X5 l m i
       by_cases ce:ec8 ((i+1)*l) m=i+1
       · rw[decide_eq_true (congrArg V.int (by rw[ce]))];refine L9 ⟨_,rfl,.inl ⟨rfl,_,h8.of h2⟩,_,rfl,fa,_,_,rfl,rfl,h2,x8 (by unfold J7;rw[dz0,dz0];omega),?_⟩;refine ⟨_,_,_,rfl,?_,s2.upd_r nfa⟩;rw[c8,aj0,if_pos ce];unfold J7;rw[dz6,dz6];rfl
       · rw[decide_eq_false fun z=>ce (by have:=V.int.inj z;omega)];refine C0 ⟨_,_,_,rfl,?_,s2⟩;rw[aj0,if_neg ce];exact h2
     · rw[decide_eq_true (by omega)];refine ⟨fun σ' H'=>∃m',m' < y/\_,fun _ _ h=>h,?_⟩;refine ⟨_,rfl,_,rfl,_,rfl,_,_,rfl,rfl,(show (0:Int) < (y:Int) by omega),_,_,rfl,?_⟩;refine ⟨x%y,eh3 _ (by omega),y,x%y,?_,?_,rfl,rfl⟩
       · rw[ei9];rfl
       · rw[<-eg,eu8 x y,Nat.gcd_rec y x,eu8]
   · rintro σ H2 ⟨v4,v5,v6,rfl,h2,s2⟩;exact ⟨_,rfl,q fa H2 nfa s2 h2⟩
theorem O7 {x:Nat}(h:x < 2^1000):((x:Int)).natAbs < 2^20000:=by
 rw[ei0];exact ec7 h (ei1 (by decide) (by decide))
theorem cs9 {x:Nat}(h:x < 2^1000):((x:Int)).natAbs < 2^9000:=by
 rw[ei0];exact ec7 h (ei1 (by decide) (by decide))
theorem ds3:∀k,k < 41->1600^k < 2^440:=by decide+kernel
theorem p40:∀k,k < 41->40^k < 2^220:=by decide+kernel
theorem ds4 {x:Nat}(h:x < 2^440):x < 2^1000:=ec7 h (ei1 (by decide) (by decide))
theorem db6 {x:Nat}(h:x < 2^220):x < 2^1000:=ec7 h (ei1 (by decide) (by decide))
theorem ap2 {n:Nat}(h:n<=40):m8 n < 2^1000:=db6 (eb5 (ap1 h) (p40 n (by omega)))
theorem ac8 {x k:Nat}(h:x<=1600^k)(hk:k<=40):x < 2^1000:=ds4 (eb5 h (ds3 k (by omega)))
theorem ct0 {x y:Nat}(hx:x < 2^1000)(hy:y < 2^1000):((x:Int)*(y:Int)).natAbs < 2^20000:=by
 rw[<-ed4,ei0];refine ec7 (Nat.mul_lt_mul'' hx hy) ?_;rw[<-ev5];exact ei1 (by decide) (by decide)
theorem aj4 {x:Nat}(h:x<=1600):x < 2^1000:=ac8 (k:=1) h (by decide)
theorem ds5 {l i:Nat}(hl:l<=40)(hi:i<=40):m8 i*l^i<=1600^i:=by
 rw[show 1600=40*40 from rfl,Nat.mul_pow];exact eg3 (ap1 hi) (el1 hl _)
theorem dx1 {l d:Nat}{x:Nd}(h:1<=x.a):ndV (U6 l d x 0)=[.int (x.left:Int),.int ((x.a:Int) - 1 - 1),.int (x.t:Int),.int (x.b:Int)]:=by
 show [V.int ((x.left - 0*d:Nat):Int),V.int (((x.a - 1:Nat):Int) - 1),V.int ((x.t*M3 l d^0:Nat):Int),V.int ((x.b*m8 d^0*m8 0:Nat):Int)]=_;rw[ee5,Nat.sub_zero,ep3,ep3,ei6,ei6,show m8 0=1 from rfl,ei6,ev2 h];rfl
theorem do0 {l d k:Nat}{x:Nd}(h:1<=x.a)(hk:(k+1)*d<=x.left):ndV (U6 l d x (k+1))=[.int ((x.left:Int) - (1+(k:Int))*(d:Int)),.int ((x.a:Int) - 1 - 1),.int (((U6 l d x k).t:Int)*(M3 l d:Int)),.int (((U6 l d x k).b:Int)*(m8 d:Int)*(1+(k:Int)))]:=by
 show [V.int ((x.left - (k+1)*d:Nat):Int),V.int (((x.a - 1:Nat):Int) - 1),V.int ((x.t*M3 l d^(k+1):Nat):Int),V.int ((x.b*m8 d^(k+1)*((k+1)*m8 k):Nat):Int)]=[_,_,V.int (((x.t*M3 l d^k:Nat):Int)*(M3 l d:Int)),V.int (((x.b*m8 d^k*m8 k:Nat):Int)*(m8 d:Int)*(1+(k:Int)))]
 have e1:(1+(k:Int))=((k+1:Nat):Int):=by omega
 rw[e1,ev2 hk,ev2 h,ek9,ek9,<-ed4,<-ed4,<-ed4,<-ed4];rw[show x.t*(M3 l d^k*M3 l d)=x.t*M3 l d^k*M3 l d by ac_rfl,show x.b*(m8 d^k*m8 d)*((k+1)*m8 k)=x.b*m8 d^k*m8 k*m8 d*(k+1) by ac_rfl];rfl
def bm9:Sp:=fun vs H Q _=>∃(l n:Nat) (ra:Addr) (rs:List Nat),vs=[.int (l:Int),.int (n:Int),.ref ra]/\H ra=some (.lst ((J7 rs).map V.int))/\l<=40/\n<=40/\rs.length<=40/\(∀d∈rs,1<=d/\d<=40)/\∀H',e8 H H'->Q (.int ((jf l rs n:Nat):Int)) H'
theorem t6:m9 ["l","many","rights","top","k","total","pile","left","at","times","below","d","one","over","taken"] ["l","many","rights"] (j7 am1):=⟨rfl,rfl,rfl,by decide+kernel,rfl,by decide+kernel,by decide+kernel⟩
theorem ca0 {f:Addr}{fd:FuncData}(F:C7 K "_law_woven" "_law_woven" am1 f fd)(B:Bl mg):n6 P w K mg base E9 1 f fd ["l","many","rights"] bm9:=by
 refine F.ok t6 (fun vs H Q E h=> ?_) (fun cdv A outer s H vs Q E hr h=> ?_)
 · obtain ⟨l,n,ra,rs,rfl,hra,hl,hn,lr,dr,q⟩:=h;rfl
 · obtain ⟨l,n,ra,rs,rfl,hra,hl,hn,lr,dr,q⟩:=h;have hu:=P9 hr;refine ⟨_,@c7 _ _ _ _ _ (@i4 _ _ (3) _ _ _ _ t6.nd rfl (Or.inl rfl) (@g9 _ _ _ _) (by rfl) (by first|exact .inl rfl|exact .inr rfl|assumption)) (@c7 _ _ _ _ _ (@o6 _ _ _ _ _ _ _ _ PassesOwn.never rfl (@R8 _ _ _ _ _ _ _ (by rfl) B.range (@c5 _ _ _ _ _ (@g9 _ _ _ _) (@c5 _ _ _ _ _ (@i7 _ _ _ _ _ _ _ _ E7 (pv 1) (@g9 _ _ _ _)) (@c6 _) (by rfl)) (by rfl)) (by rfl) (by rfl)) (@j6 _ _ (4) _ t6.nd rfl (Or.inl rfl) (by first|exact .inl rfl|exact .inr rfl|assumption)) (@g6 _ _ _ (@i4 _ _ (3) _ _ _ _ t6.nd rfl (Or.inl rfl) (@i7 _ _ _ _ _ _ _ _ P5 (pv 3) (pv 4)) (by rfl) (by first|exact .inl rfl|exact .inr rfl|assumption))) (by intro _;rfl)) (@c7 _ _ _ _ _ (@i4 _ _ (5) _ _ _ _ t6.nd rfl (Or.inl rfl) (@g9 _ _ _ _) (by rfl) (by first|exact .inl rfl|exact .inr rfl|assumption)) (@c7 _ _ _ _ _ (@i4 _ _ (6) _ _ _ _ t6.nd rfl (Or.inl rfl) (@o8 _ _ _ _ (@c5 _ _ _ _ _ (@ad8 _ _ _ _ _ (@c5 _ _ _ _ _ (pv 1) (@c5 _ _ _ _ _ (@i7 _ _ _ _ _ _ _ _ V0 (@x6 _ _ _ _ _ B.len (@c5 _ _ _ _ _ (pv 2) (@c6 _) (by rfl)) (by rfl) (by rfl)) (@g9 _ _ _ _)) (@c5 _ _ _ _ _ (@g9 _ _ _ _) (@c5 _ _ _ _ _ (@g9 _ _ _ _) (@c6 _) (by rfl)) (by rfl)) (by rfl)) (by rfl))) (@c6 _) (by rfl))) (by rfl) (by first|exact .inl rfl|exact .inr rfl|assumption)) (@c7 _ _ _ _ _ (@ab2 _ _ _ _ _ _ PassesOwn.never (@j8 _ _ _ _ _ _ _ _ (an9 0 hu) (pv 6) (@o8 _ _ _ _ (@c6 _)) (n5 _)) (@c7 _ _ _ _ _ (@an1 _ _ _ _ _ _ (@cs4 _ _ _ _ _ (pv 6) (by rfl) (by rfl)) (@X2 _ _ _ _ _ _ rfl (@C4 _ _ _ _ _ (@j6 _ _ (7) _ t6.nd rfl (Or.inl rfl) (by first|exact .inl rfl|exact .inr rfl|assumption)) (@C4 _ _ _ _ _ (@j6 _ _ (8) _ t6.nd rfl (Or.inl rfl) (by first|exact .inl rfl|exact .inr rfl|assumption)) (@C4 _ _ _ _ _ (@j6 _ _ (9) _ t6.nd rfl (Or.inl rfl) (by first|exact .inl rfl|exact .inr rfl|assumption)) (@C4 _ _ _ _ _ (@j6 _ _ (10) _ t6.nd rfl (Or.inl rfl) (by first|exact .inl rfl|exact .inr rfl|assumption)) (@S9 _) (by rfl)) (by rfl)) (by rfl)) (by rfl)) (by rfl) (by rfl)) (by rfl) (by rfl) (by rfl)) (@g6 _ _ _ (@B5 _ _ _ _ _ _ _ _ (@j8 _ _ _ _ _ _ _ _ ad0 (pv 7) (@g9 _ _ _ _) (n5 _)) (@g6 _ _ _ (@i4 _ _ (5) _ _ _ _ t6.nd rfl (Or.inl rfl) (@i7 _ _ _ _ _ _ _ _ E7 (pv 5) (@i7 _ _ _ _ _ _ _ _ by2 (@i7 _ _ _ _ _ _ _ _ P5 (pv 3) (pv 9)) (pv 10))) (by rfl) (by first|exact .inl rfl|exact .inr rfl|assumption))) (@g6 _ _ _ (@B5 _ _ _ _ _ _ _ _ (@j8 _ _ _ _ _ _ _ _ bg5 (pv 8) (@g9 _ _ _ _) (n5 _)) (@c7 _ _ _ _ _ (@y6 _ _ _ _ (@E4 _ _ _ _ _ _ _ (pv 6) (@c5 _ _ _ _ _ (@ad8 _ _ _ _ _ (@c5 _ _ _ _ _ (pv 7) (@c5 _ _ _ _ _ (@i7 _ _ _ _ _ _ _ _ V0 (pv 8) (@g9 _ _ _ _)) (@c5 _ _ _ _ _ (pv 9) (@c5 _ _ _ _ _ (pv 10) (@c6 _) (by rfl)) (by rfl)) (by rfl)) (by rfl))) (@c6 _) (by rfl)) (by rfl) (by rfl) (by rfl) (by rfl) (by rfl)) (by rfl)) (@c7 _ _ _ _ _ (@i4 _ _ (11) _ _ _ _ t6.nd rfl (Or.inl rfl) (@J9 _ _ _ _ _ _ _ C5 (pv 2) (pv 8) (fun _ _=>rfl)) (by rfl) (by first|exact .inl rfl|exact .inr rfl|assumption)) (@c7 _ _ _ _ _ (@i4 _ _ (12) _ _ _ _ t6.nd rfl (Or.inl rfl) (@g9 _ _ _ _) (by rfl) (by first|exact .inl rfl|exact .inr rfl|assumption)) (@c7 _ _ _ _ _ (@i4 _ _ (13) _ _ _ _ t6.nd rfl (Or.inl rfl) (@g9 _ _ _ _) (by rfl) (by first|exact .inl rfl|exact .inr rfl|assumption)) (@c7 _ _ _ _ _ (@o6 _ _ _ _ _ _ _ _ PassesOwn.never rfl (@R8 _ _ _ _ _ _ _ (by rfl) B.range (@c5 _ _ _ _ _ (@g9 _ _ _ _) (@c5 _ _ _ _ _ (pv 11) (@c6 _) (by rfl)) (by rfl)) (by rfl) (by rfl)) (@j6 _ _ (4) _ t6.nd rfl (Or.inl rfl) (by first|exact .inl rfl|exact .inr rfl|assumption)) (@c7 _ _ _ _ _ (@i4 _ _ (12) _ _ _ _ t6.nd rfl (Or.inl rfl) (@i7 _ _ _ _ _ _ _ _ P5 (@i7 _ _ _ _ _ _ _ _ P5 (pv 12) (pv 4)) (pv 0)) (by rfl) (by first|exact .inl rfl|exact .inr rfl|assumption)) (@g6 _ _ _ (@i4 _ _ (13) _ _ _ _ t6.nd rfl (Or.inl rfl) (@i7 _ _ _ _ _ _ _ _ P5 (pv 13) (@i7 _ _ _ _ _ _ _ _ E7 (pv 4) (@g9 _ _ _ _))) (by rfl) (by first|exact .inl rfl|exact .inr rfl|assumption)))) (by intro _;rfl)) (@g6 _ _ _ (@o6 _ _ _ _ _ _ _ _ PassesOwn.never rfl (@R8 _ _ _ _ _ _ _ (by rfl) B.range (@c5 _ _ _ _ _ (@g9 _ _ _ _) (@c5 _ _ _ _ _ (@i7 _ _ _ _ _ _ _ _ E7 (@i7 _ _ _ _ _ _ _ _ by2 (pv 7) (pv 11)) (@g9 _ _ _ _)) (@c6 _) (by rfl)) (by rfl)) (by rfl) (by rfl)) (@j6 _ _ (14) _ t6.nd rfl (Or.inl rfl) (by first|exact .inl rfl|exact .inr rfl|assumption)) (@c7 _ _ _ _ _ (@i4 _ _ (9) _ _ _ _ t6.nd rfl (Or.inl rfl) (@i7 _ _ _ _ _ _ _ _ P5 (pv 9) (pv 12)) (by rfl) (by first|exact .inl rfl|exact .inr rfl|assumption)) (@c7 _ _ _ _ _ (@i4 _ _ (10) _ _ _ _ t6.nd rfl (Or.inl rfl) (@i7 _ _ _ _ _ _ _ _ P5 (@i7 _ _ _ _ _ _ _ _ P5 (pv 10) (pv 13)) (pv 14)) (by rfl) (by first|exact .inl rfl|exact .inr rfl|assumption)) (@g6 _ _ _ (@y6 _ _ _ _ (@E4 _ _ _ _ _ _ _ (pv 6) (@c5 _ _ _ _ _ (@ad8 _ _ _ _ _ (@c5 _ _ _ _ _ (@i7 _ _ _ _ _ _ _ _ V0 (pv 7) (@i7 _ _ _ _ _ _ _ _ P5 (pv 14) (pv 11))) (@c5 _ _ _ _ _ (@i7 _ _ _ _ _ _ _ _ V0 (pv 8) (@g9 _ _ _ _)) (@c5 _ _ _ _ _ (pv 9) (@c5 _ _ _ _ _ (pv 10) (@c6 _) (by rfl)) (by rfl)) (by rfl)) (by rfl))) (@c6 _) (by rfl)) (by rfl) (by rfl) (by rfl) (by rfl) (by rfl)) (by rfl))))) (by intro _;rfl)))))))) (@o4 _))))))) (@g6 _ _ _ (@l8 _ _ _ _ (pv 5))))))),?_⟩
   refine ck7 ?_;intros
   try dsimp only[x9,Cx.nox,Cx.wish]
   refine ⟨_,rfl,_,_,rfl,rfl,1,(n:Int)+1,rfl,⟨by decide,by decide,by omega,by omega⟩,?_⟩;rw[show ((n:Int)+1 - 1).toNat=n by omega]
   refine E3 (lo:=1) (n:=n) (fun i σ H2=>∃v4:Option V,σ=[some (.int (l:Int)),some (.int (n:Int)),some (.ref ra),some (.int ((m8 i:Nat):Int)),v4,none,none,none,none,none,none,none,none,none,none]/\H2=H)
     ⟨none,rfl,rfl⟩ ?_ ?_
   · rintro i σ H2 hi ⟨v4,rfl,rfl⟩;refine ⟨_,rfl,_,rfl,_,_,rfl,rfl,⟨O7 (ap2 (by omega)),?_⟩,some (.int (1+(i:Int))),?_,rfl⟩
     · rw[show (1:Int)+(i:Int)=((i+1:Nat):Int) by omega];exact O7 (db6 (eb5 (show i+1<=40^1 by omega) (p40 1 (by decide))))
     · have e:((m8 (i+1):Nat):Int)=((m8 i:Nat):Int)*(1+(i:Int)):=by
         show (((i+1)*m8 i:Nat):Int)=_;rw[ed4,Int.mul_comm]
         congr 1
         omega
       rw[e];rfl
   rintro σ H2 ⟨v4,rfl,rfl⟩;refine ⟨_,rfl,_,rfl,ra,_,rfl,.inl (h8.of hra),_,_,rfl,rfl,(show 4<=sizeLine by decide),fun t0 nt0=> ?_⟩;refine ⟨(show 1<=sizeLine by decide),fun pl npl=> ?_⟩
   have ll:((J7 rs).map V.int).length=rs.length:=by unfold J7;rw[dz0,dz0]
   have npt:pl≠t0:=fun z=>by rw[z,c8] at npl;cases npl
   have npl2:H2 pl=none:=by rw[g7 npt] at npl;exact npl
   have s1:e8 H2 (c9 (c9 H2 t0 (.tup (ndV ⟨n,rs.length,1,1,1⟩))) pl (.lst [.ref t0])):=(e8.upd_new nt0).upd_r npl2
   have h1:O6 (c9 (c9 H2 t0 (.tup (ndV ⟨n,rs.length,1,1,1⟩))) pl (.lst [.ref t0])) pl n rs [t0] [⟨n,rs.length,1,1,1⟩]:=by
     have z:O6 (c9 (c9 H2 t0 (.tup (ndV ⟨n,rs.length,1,1,1⟩))) pl (.lst [])) pl n rs [] []:=⟨c8,rfl,fun i t x e=>(by cases e),fun x hx=>(by cases hx),fun i x e=>(by cases e),fun t ht=>(by cases ht)⟩;have z2:=z.push (t:=t0) (x:=⟨n,rs.length,1,1,1⟩) (by rw[g7 npt.symm];exact c8) ⟨dz3 _,dz3 _,rfl.trans (ef5 _ _),dz3 _,by rw[ek1];exact dz3 _,by rw[ek1];exact dz3 _⟩ (by show rs.length+0/42<=_;omega) npt.symm;rw[db8] at z2;exact z2
   refine ⟨fun mm σ H3=>∃(tot:Nat) (ts:List Addr) (nds:List Nd) (v4 v7 v8 v9 v10 v11 v12 v13 v14:Option V),σ=[some (.int (l:Int)),some (.int (n:Int)),some (.ref ra),some (.int ((m8 n:Nat):Int)),v4,some (.int (tot:Int)),some (.ref pl),v7,v8,v9,v10,v11,v12,v13,v14]/\O6 H3 pl n rs ts nds/\e8 H2 H3/\tot+(nds.map (X9 l rs)).sum=jf l rs n/\mm=(nds.map fun x=>cst rs x.a x.left).sum,⟨_,0,[t0],[⟨n,rs.length,1,1,1⟩],v4,none,none,none,none,none,none,none,none,rfl,?_,?_,?_,rfl⟩,?_⟩
   · rw[ll];exact h1
   · rw[ll];exact s1
   · show 0+(1*jf l (rs.take rs.length) n+0)=_;rw[ec4];omega
   rintro mm σ H3 ⟨tot,ts,nds,v4,v7,v8,v9,v10,v11,v12,v13,v14,rfl,hp,s3,et,rfl⟩;refine ⟨_,rfl,(show 0<=sizeLine by decide),fun ne nne=> ?_⟩;have hp4:=hp.keep (e8.upd_new (o:= .lst []) nne);have s4:e8 H2 (c9 H3 ne (.lst [])):=s3.trans (e8.upd_new nne);have hn4:(c9 H3 ne (.lst [])) ne=some (.lst []):=c8;refine ⟨pl,ne,_,[],_,rfl,rfl,h8.of hp4.at_,h8.of hn4,ce7 _ _ _ _,_,rfl,?_⟩;clear hn4;generalize c9 H3 ne (.lst [])=H4 at hp4 s4 ⊢;clear hp nne s3
   rcases List.eq_nil_or_concat nds with c|⟨nds',x,c⟩
   · subst c;have:ts=[]:=eh9.mp hp4.len;subst this;refine ⟨_,rfl,?_⟩;have:tot=jf l rs n:=et;rw[this];exact q _ s4
   rw[List.concat_eq_append] at c;subst c;obtain ⟨ts',t,rfl,ht,hp5,okx,lvx⟩:=hp4.pop
   have e1:(!((ts'++[t]).map V.ref).isEmpty)=true:=by cases ts'<;>rfl
   rw[if_pos rfl,e1,if_pos rfl];refine ⟨fun σ' H'=>∃m',m' < _/\_,fun _ _ h=>h,?_⟩;have ets:(ts'++[t]).map V.ref=ts'.map V.ref++[.ref t]:=dz6
   have h4p:H4 pl=some (.lst (ts'.map V.ref++[.ref t])):=by rw[hp4.at_,ets]
   have ntp:t≠pl:=hp4.ne t (ea9 _ (ea1.mpr rfl))
   have et5:(c9 H4 pl (.lst (ts'.map V.ref))) t=some (.tup (ndV x)):=by rw[g7 ntp];exact ht
   have s5:e8 H2 (c9 H4 pl (.lst (ts'.map V.ref))):=s4.upd_r npl2;refine ⟨_,rfl,.inl ⟨rfl,_,h8.of h4p⟩,pl,_,_,rfl,rfl,h4p,show _=some (V.ref t) from ?_,?_⟩
   · rw[dz9,eb9 (by simp)];simp
   rw[List.dropLast_concat];refine ⟨t,_,rfl,O3.of et5,rfl,_,_,rfl,_,_,rfl,_,_,rfl,_,_,rfl,rfl,?_⟩;clear h4p ets ht hp4 s4 et5;generalize c9 H4 pl (.lst (ts'.map V.ref))=H5 at hp5 s5 ⊢;refine ⟨_,rfl,rfl,_,rfl,?_⟩;have fb:=ap2 hn;have tb:=ac8 okx.tb (by omega);have bb:=ac8 okx.bb (by omega);rw[dz6,en2] at et;have et:tot+((nds'.map (X9 l rs)).sum+(X9 l rs x+0))=jf l rs n:=et
   have ec:((nds'++[x]).map fun x=>cst rs x.a x.left).sum=(nds'.map fun x=>cst rs x.a x.left).sum+cst rs x.a x.left:=by rw[dz6,en2];rfl
   have cp:=dg8 rs x.a x.left
   by_cases c0:x.left=0
   · rw[decide_eq_true (by rw[c0];rfl)];refine L9 ⟨_,rfl,_,rfl,_,rfl,_,_,rfl,rfl,⟨O7 fb,O7 tb⟩,_,rfl,_,_,rfl,rfl,⟨by have:=okx.b1;omega,cs9 bb⟩,_,_,rfl,rfl,?_⟩
     have ev:(tot:Int)+((m8 n:Nat):Int)*(x.t:Int)/(x.b:Int)=((tot+x.q:Nat):Int):=by
       have eq:=okx.eq;rw[c0,show m8 0=1 from rfl,ei6] at eq;rw[<-ed4,eq,<-Int.natCast_ediv,Nat.mul_div_cancel _ okx.b1];rfl
     have vx:X9 l rs x=x.q:=by unfold X9;rw[c0,dg7,ei6]
     refine ⟨(nds'.map fun x=>cst rs x.a x.left).sum,by rw[ec];omega,tot+x.q,ts',nds',v4,some (.int (x.left:Int)),some (.int ((x.a:Int) - 1)),some (.int (x.t:Int)),some (.int (x.b:Int)),v11,v12,v13,v14,?_,hp5,s5,by rw[<-et,vx];omega,rfl⟩;rw[<-ev];rfl
   · rw[decide_eq_false (fun z=>c0 (by have:=V.int.inj z;omega))];refine C0 ⟨_,rfl,_,_,rfl,rfl,_,rfl,?_⟩
     by_cases ca:x.a=0
     · rw[decide_eq_false (by omega)]
       have vx:X9 l rs x=0:=by unfold X9;rw[ca];show x.q*jf l [] x.left=0;rw[dn8 (by omega)];rfl
       refine C0 ⟨(nds'.map fun x=>cst rs x.a x.left).sum,by rw[ec];omega,tot,ts',nds',v4,_,_,_,_,v11,v12,v13,v14,rfl,hp5,s5,by rw[<-et,vx];omega,rfl⟩
     rw[decide_eq_true (by omega)];obtain ⟨a,ea⟩:∃a,x.a=a+1:=⟨x.a - 1,by omega⟩
     have al:a < rs.length:=by have:=okx.al;omega
     obtain ⟨d,hd⟩:∃d,rs[a]? =some d:=⟨_,dz1 al⟩;obtain ⟨d1,d2⟩:=dr d (dz8 hd);refine L9 ⟨_,rfl,.inl ⟨rfl,_,h8.of hp5.at_⟩,_,rfl,_,rfl,_,_,rfl,rfl,_,rfl,_,rfl,(show 4<=sizeLine by decide),fun t1 nt1=> ?_⟩;have hp5':=hp5.keep (e8.upd_new (o:= .tup [.int (x.left:Int),.int ((x.a:Int) - 1 - 1),.int (x.t:Int),.int (x.b:Int)]) nt1);have few:=hp5.few lr
     have n1p:t1≠pl:=fun z=>by rw[z,hp5.at_] at nt1;cases nt1
     have hp6:=hp5'.push (t:=t1) (x:=U6 l d x 0) (by rw[c8,dx1 (by omega)]) (bz9 okx hl hn d1 d2 (by omega)) (by show x.a - 1+_<=_;omega) n1p;have s6:=(s5.trans (e8.upd_new (o:= .tup [.int (x.left:Int),.int ((x.a:Int) - 1 - 1),.int (x.t:Int),.int (x.b:Int)]) nt1)).upd_r (o:= .lst (ts'.map V.ref++[.ref t1])) npl2;refine ⟨pl,_,_,rfl,rfl,hp5'.at_,eb5 (show _<=2000 by rw[dz0,hp5.len];omega) (by decide),?_⟩;generalize c9 (c9 H5 t1 (.tup [.int (x.left:Int),.int ((x.a:Int) - 1 - 1),.int (x.t:Int),.int (x.b:Int)])) pl (.lst (ts'.map V.ref++[.ref t1]))=H6 at hp6 s6 ⊢
     have hdv:((J7 rs).map V.int)[a]? =some (.int (d:Int)):=by unfold J7;rw[dz4,dz4,hd];rfl
     refine ⟨_,rfl,_,rfl,ra,_,_,_,rfl,rfl,h8.of (s6 _ _ hra),(show atI _ ((x.a:Int) - 1)=some (V.int (d:Int)) from ?_),?_⟩
     · rw[show ((x.a:Int) - 1)=((a:Nat):Int) by omega,G9];exact hdv
     refine ⟨_,rfl,1,(d:Int),rfl,⟨by decide,by decide,by omega,by omega⟩,?_⟩;rw[show ((d:Int) - 1).toNat=d - 1 by omega]
     refine E3 (lo:=1) (n:=d - 1) (fun i σ H7=>∃v4:Option V,σ=[some (.int (l:Int)),some (.int (n:Int)),some (.ref ra),some (.int ((m8 n:Nat):Int)),v4,some (.int (tot:Int)),some (.ref pl),some (.int (x.left:Int)),some (.int ((x.a:Int) - 1)),some (.int (x.t:Int)),some (.int (x.b:Int)),some (.int (d:Int)),some (.int ((m8 i*l^i:Nat):Int)),some (.int ((m8 (i+1):Nat):Int)),v14]/\H7=H6)
       ⟨v4,rfl,rfl⟩ ?_ ?_
     · rintro i σ H7 hi ⟨w4,rfl,rfl⟩;have b1:m8 i*l^i < 2^1000:=ac8 (ds5 hl (by omega)) (by omega)
       have e1:(1+(i:Int))=((i+1:Nat):Int):=by omega
       have b0:(1+(i:Int)).natAbs < 2^20000:=by rw[e1];exact O7 (aj4 (by omega))
       have bl:((l:Nat):Int).natAbs < 2^20000:=O7 (aj4 (by omega))
       have b2:(((m8 i*l^i:Nat):Int)*(1+(i:Int))).natAbs < 2^20000:=by rw[e1];exact ct0 b1 (aj4 (by omega))
       have b3:(1+(i:Int)+1).natAbs < 2^20000:=by rw[e1];exact O7 (x:=i+1+1) (aj4 (by omega))
       refine ⟨_,rfl,_,rfl,_,_,rfl,rfl,⟨O7 b1,b0⟩,_,rfl,_,_,rfl,rfl,⟨b2,bl⟩,_,rfl,_,rfl,_,_,rfl,rfl,_,_,rfl,rfl,⟨O7 (ap2 (by omega)),b3⟩,some (.int (1+(i:Int))),?_,rfl⟩
       have g1:((m8 (i+1)*l^(i+1):Nat):Int)=((m8 i*l^i:Nat):Int)*(1+(i:Int))*(l:Int):=by
         rw[e1,<-ed4,<-ed4]
         congr 1
         show (i+1)*m8 i*(l^i*l)=_
         ac_rfl
       have g2:((m8 (i+1+1):Nat):Int)=((m8 (i+1):Nat):Int)*(1+(i:Int)+1):=by
         rw[e1,show (((i+1:Nat):Int)+1)=((i+1+1:Nat):Int) by omega,<-ed4]
         congr 1
         show (i+1+1)*m8 (i+1)=_
         ac_rfl
       rw[g1,g2];rfl
     rintro σ H7 ⟨w4,rfl,rfl⟩;have dl:x.left/d<=40:=ea4 (Nat.div_le_self _ _) (by have:=okx.le;omega);have bd:((d:Nat):Int).natAbs < 2^20000:=O7 (aj4 (by omega));have one_big:M3 l d < 2^1000:=ac8 (cs8 hl d2) (by omega);have ed:((x.left:Int)/(d:Int))=((x.left/d:Nat):Int):=(Int.natCast_ediv _ _).symm;refine ⟨_,rfl,_,rfl,_,_,rfl,rfl,⟨by omega,cs9 (aj4 (by omega))⟩,_,_,rfl,rfl,1,(x.left:Int)/(d:Int)+1,rfl,⟨by decide,by decide,by rw[ed];generalize x.left/d=kk at dl ⊢;omega,by rw[ed];generalize x.left/d=kk at dl ⊢;omega⟩,?_⟩;rw[show ((x.left:Int)/(d:Int)+1 - 1).toNat=x.left/d by rw[ed];generalize x.left/d=kk at dl ⊢;omega]
     refine E3 (lo:=1) (n:=x.left/d) (fun i σ H8=>∃(ts2:List Addr) (v14:Option V),σ=[some (.int (l:Int)),some (.int (n:Int)),some (.ref ra),some (.int ((m8 n:Nat):Int)),w4,some (.int (tot:Int)),some (.ref pl),some (.int (x.left:Int)),some (.int ((x.a:Int) - 1)),some (.int ((U6 l d x i).t:Int)),some (.int ((U6 l d x i).b:Int)),some (.int (d:Int)),some (.int ((M3 l d:Nat):Int)),some (.int ((m8 d:Nat):Int)),v14]/\O6 H8 pl n rs ts2 (nds'++(ed0 (i+1)).map (U6 l d x))/\e8 H2 H8)
       ⟨ts'++[t1],v14,?_,hp6,s6⟩ ?_ ?_
     · have g1:(U6 l d x 0).t=x.t:=by show x.t*M3 l d^0=_;rw[ep3,ei6]
       have g2:(U6 l d x 0).b=x.b:=by show x.b*m8 d^0*m8 0=_;rw[ep3,ei6];exact ei6 _
       rw[g1,g2,ek7 d1];rfl
     · rintro i σ H8 hi ⟨ts2,w14,rfl,hp8,s8⟩
       have e1:(1+(i:Int))=((i+1:Nat):Int):=by omega
       have b0:(1+(i:Int)).natAbs < 2^20000:=by rw[e1];exact O7 (aj4 (by omega))
       have kd:(i+1)*d<=x.left:=ea4 (eg9 d (show i+1<=x.left/d from hi)) (Nat.div_mul_le_self _ _);have kd0:i*d<=x.left:=ea4 (eg9 d (er6 i)) kd;have oki:=bz9 (rs:=rs) okx hl hn d1 d2 kd0;have ok2:=bz9 (rs:=rs) okx hl hn d1 d2 kd;have tbi:=ac8 oki.tb (by omega);have bbi:=ac8 oki.bb (by omega);refine ⟨_,rfl,_,rfl,_,_,rfl,rfl,⟨O7 tbi,O7 one_big⟩,_,rfl,_,rfl,_,_,rfl,rfl,⟨O7 bbi,O7 (ap2 d2)⟩,_,rfl,_,_,rfl,rfl,⟨ct0 bbi (ap2 d2),b0⟩,?_⟩;refine ⟨_,rfl,.inl ⟨rfl,_,h8.of hp8.at_⟩,_,rfl,_,rfl,_,rfl,_,_,rfl,rfl,⟨b0,bd⟩,_,_,rfl,rfl,_,rfl,_,_,rfl,rfl,_,rfl,_,rfl,(show 4<=sizeLine by decide),fun t2 nt2=> ?_⟩;have hp8':=hp8.keep (e8.upd_new (o:= .tup (ndV (U6 l d x (i+1)))) nt2);have few8:=hp8.few lr
       have n2p:t2≠pl:=fun z=>by rw[z,hp8.at_] at nt2;cases nt2
       have hp9:=hp8'.push (t:=t2) (x:=U6 l d x (i+1)) c8 ok2 (by show x.a - 1+_<=_;rw[dz9,dz0,ec5];omega) n2p;have s9:=(s8.trans (e8.upd_new (o:= .tup (ndV (U6 l d x (i+1)))) nt2)).upd_r (o:= .lst (ts2.map V.ref++[.ref t2])) npl2;rw[do0 (by omega) kd] at hp8' hp9 s9;refine ⟨pl,_,_,rfl,rfl,hp8'.at_,eb5 (show _<=2000 by rw[dz0,hp8.len];omega) (by decide),?_⟩;refine ⟨ts2++[t2],some (.int (1+(i:Int))),?_,?_,s9⟩
       · have ec2:ndV (U6 l d x (i+1))=_:=do0 (by omega) kd;have g1:V.int ((U6 l d x (i+1)).t:Int)=V.int (((U6 l d x i).t:Int)*(M3 l d:Int)):=congrArg (fun z=>z.getD 2 V.non) ec2;have g2:V.int ((U6 l d x (i+1)).b:Int)=V.int (((U6 l d x i).b:Int)*(m8 d:Int)*(1+(i:Int))):=congrArg (fun z=>z.getD 3 V.non) ec2;rw[g1,g2];rfl
       · rw[ej6,dz6,<-eb3];exact hp9
     · rintro σ H8 ⟨ts2,w14,rfl,hp8,s8⟩
       have vv:(((ed0 (x.left/d+1)).map (U6 l d x)).map (X9 l rs)).sum=X9 l rs x:=by rw[ee4];exact dg9 (fun d hd=>(dr d hd).1) ea hd
       have cc:(((ed0 (x.left/d+1)).map (U6 l d x)).map fun x=>cst rs x.a x.left).sum+1=cst rs x.a x.left:=by rw[ee4];exact dh0 ea hd
       refine ⟨_,?_,tot,ts2,_,w4,_,_,_,_,_,_,_,w14,rfl,hp8,s8,?_,rfl⟩
       · rw[ec,dz6,en2];omega
       · rw[dz6,en2,vv,<-et];omega
theorem Q2:m9 ["p","m","found","counts","l"] ["p","m"] (j7 ac6):=⟨rfl,rfl,rfl,by decide+kernel,rfl,by decide+kernel,by decide+kernel⟩
theorem bj4 {f:Addr}{fd:FuncData}(F:C7 K "_law_how_many" "_law_how_many" ac6 f fd)(c_law_counts:n0 P w K mg base "_law_counts" 2 ["p"] be4)(c_law_woven:n0 P w K mg base "_law_woven" 1 ["l","many","rights"] bm9)(c_law_rights:n0 P w K mg base "_law_rights" 1 ["l","m","most"] ay4):n6 P w K mg base E9 3 f fd ["p","m"] aj1:=by
 refine F.ok Q2 (fun vs H Q E h=> ?_) (fun cdv A outer s H vs Q E hr h=> ?_)
 · obtain ⟨a,p,m,rfl,⟨ha,tp,lp⟩,m1,q⟩:=h;rfl
 · obtain ⟨a,p,m,rfl,⟨ha,tp,lp⟩,m1,q⟩:=h;have hr_law_counts:l9 2 _:=hr.mono (by decide);have hr_law_woven:l9 1 _:=hr.mono (by decide);have hr_law_rights:l9 1 _:=hr.mono (by decide);have hu:=P9 hr;refine ⟨_,@c7 _ _ _ _ _ (@i4 _ _ (2) _ _ _ _ Q2.nd rfl (Or.inl rfl) (@g9 _ _ _ _) (by rfl) (by first|exact .inl rfl|exact .inr rfl|assumption)) (@c7 _ _ _ _ _ (@i4 _ _ (3) _ _ _ _ Q2.nd rfl (Or.inl rfl) (@i8 _ _ _ _ _ _ _ _ _ _ c_law_counts hr_law_counts (@c5 _ _ _ _ _ (pv 0) (@c6 _) (by rfl)) (by rfl) (by decide) (by rfl) (by rfl)) (by rfl) (by first|exact .inl rfl|exact .inr rfl|assumption)) (@c7 _ _ _ _ _ (@o6 _ _ _ _ _ _ _ _ PassesOwn.never rfl (@bl1 _ _ _ _ (pv 3)) (@j6 _ _ (4) _ Q2.nd rfl (Or.inl rfl) (by first|exact .inl rfl|exact .inr rfl|assumption)) (@g6 _ _ _ (@i4 _ _ (2) _ _ _ _ Q2.nd rfl (Or.inl rfl) (@i7 _ _ _ _ _ _ _ _ P5 (pv 2) (@i8 _ _ _ _ _ _ _ _ _ _ c_law_woven hr_law_woven (@c5 _ _ _ _ _ (pv 4) (@c5 _ _ _ _ _ (@an5 _ _ _ _ _ _ hu (pv 3) (pv 4) (fun _ _=>rfl)) (@c5 _ _ _ _ _ (@i8 _ _ _ _ _ _ _ _ _ _ c_law_rights hr_law_rights (@c5 _ _ _ _ _ (pv 4) (@c5 _ _ _ _ _ (pv 1) (@c5 _ _ _ _ _ (@an5 _ _ _ _ _ _ hu (pv 3) (pv 4) (fun _ _=>rfl)) (@c6 _) (by rfl)) (by rfl)) (by rfl)) (by rfl) (by decide) (by rfl) (by rfl)) (@c6 _) (by rfl)) (by rfl)) (by rfl)) (by rfl) (by decide) (by rfl) (by rfl))) (by rfl) (by first|exact .inl rfl|exact .inr rfl|assumption))) (by intro _;rfl)) (@g6 _ _ _ (@l8 _ _ _ _ (pv 2))))),?_⟩;refine bj0 ?_;intros
   try dsimp only[x9,Cx.nox,Cx.wish]
   refine ⟨_,rfl,a,p,rfl,⟨ha,tp,lp⟩,fun d kvs ns H1 nd s1 ca bz ln=> ?_⟩;have up:=ah7 tp;generalize hrs:q9 p p.length=rs at ca up;have cl:=ac7 up;have fl:=aa5 tp up;refine ⟨_,rfl,d,kvs,rfl,ca.at_,fun o=> ?_⟩;have s4:e8 H (c9 H1 d (.frz o (.dK kvs))):=s1.upd_r nd;have h4d:(c9 H1 d (.frz o (.dK kvs))) d=some (.frz o (.dK kvs)):=c8;generalize (c9 H1 d (.frz o (.dK kvs)))=H4 at s4 h4d ⊢
   have lkv:kvs.length=ns.length:=by have:=congrArg List.length ca.keys;rw[dz0,dz0] at this;exact this
   have cb:∀u,w6 rs u<=40:=fun u=>by
     have:w6 rs u<=rs.length:=eq2;omega
   refine ar6 (fun i σ H5=>∃(v:Option V),σ=[some (.ref a),some (.int (m:Int)),some (.int ((y8 (fun l=>E2 l m (w6 rs l)) ((ns.take i).map en5):Nat):Int)),some (.ref d),v]/\e8 H4 H5)
     ⟨none,rfl,e8.refl H4⟩ (fun i σ H5 _ ⟨_,_,e⟩=>e _ _ h4d) ?_ ?_
   · rintro i k v σ H5 hi ⟨v4,rfl,s5⟩
     have hk:(kvs.map (·.1))[i]? =some k:=by rw[dz4,hi];rfl
     rw[show kvs.map (·.1)=ns.map Sum.inl from ca.keys,dz4] at hk
     cases hE:ns[i]? with
     |none=>rw[hE] at hk;cases hk
     |some z=>
      rw[hE] at hk;cases hk;have zm:=dz8 hE;have zb:=bz z zm;obtain ⟨u,rfl⟩:∃u:Nat,z=(u:Int):=⟨z.toNat,by omega⟩;have il:i < ns.length:=(dz2.mp hE).1;have vu:=ca.val u zm;have cu:=cb u
      have pb:y8 (fun l=>E2 l m (w6 rs l)) ((ns.take i).map en5)<=(1600^40)^i:=by
        have:=be9 (f:=fun l=>E2 l m (w6 rs l)) (c:=1600^40) (ks:=(ns.take i).map en5) fun k hk=>by
          obtain ⟨e1,he1,rfl⟩:=ea2.mp hk;have:=bz e1 (ef0 he1);exact ak4 (by omega) (cb _)
        rw[dz0,eb2,eo9 (by omega)] at this;exact this
      obtain ⟨F0,hF0⟩:∃F0,F0=y8 (fun l=>E2 l m (w6 rs l)) ((ns.take i).map en5):=⟨_,rfl⟩;rw[<-hF0] at pb ⊢;refine ⟨_,rfl,_,rfl,_,rfl,_,rfl,d,_,rfl,.inl ⟨kvs,Sum.inl (u:Int),.inr ⟨o,s5 _ _ h4d⟩,rfl,vu.symm⟩,_,rfl,_,rfl,_,rfl,_,rfl,d,_,rfl,.inl ⟨kvs,Sum.inl (u:Int),.inr ⟨o,s5 _ _ h4d⟩,rfl,vu.symm⟩,u,m,w6 rs u,rfl,by omega,cu,fun fa H6 nfa s6 h6=> ?_⟩;refine ⟨u,w6 rs u,fa,_,rfl,h6,by omega,cu,ea4 (X5 _ _ _) cu,fun d hd=>⟨(J8 hd).1,ea4 (J8 hd).2 cu⟩,fun H7 s7=> ?_⟩;refine ⟨_,_,rfl,rfl,⟨?_,?_⟩,some (.int (u:Int)),?_,(s5.trans s6).trans s7⟩
      · rw[ei0];exact eb5 pb (cg9 i (by omega) (by decide))
      · rw[ei0];exact eb5 (ak4 (by omega) cu) (bj2 40 (dz3 _) (by decide))
      · rw[l6 hE,dz6,show ([(u:Int)].map en5:List Nat)=[u] from rfl,ar7,<-hF0,ed4];rfl
   · rintro σ H5 ⟨v,rfl,s5⟩;rw[lkv,ec4,ak5 tp up (ks:=ns.map en5) (List.Pairwise.map _ (fun a b h=>h) (List.Pairwise.imp_of_mem (fun {a b} ha hb h=>show a.toNat≠b.toNat from fun e=>h (by have:=bz a ha;have:=bz b hb;omega)) ca.nd)) (fun k hk=> ?_) (fun r hr=> ?_) (f:=fun l=>E2 l m (w6 rs l)) fun u hu=>by show E2 u m (w6 rs u)=1;rw[hu];rfl]
     · rw[<-hrs];exact ⟨_,rfl,q _ (s4.trans s5)⟩
     · obtain ⟨z,hz,rfl⟩:=ea2.mp hk;obtain ⟨r,hr,e⟩:=(ca.all z).mp hz;exact ⟨r,hr,by omega⟩
     · exact ea2.mpr ⟨(r.length:Int),(ca.all _).mpr ⟨r,hr,rfl⟩,rfl⟩
end
end My
namespace My
local macro_rules|`(tactic|omega)=>`(tactic|lia)
open PySem L2 Mth
section
variable {P:Program} {w:World} {K:PySem.W.Frag} {mg:Str->Option Value} {base:Heap}
def M6 {α:Type}(R:Addr->α->Prop)(ts:List Addr)(xs:List α):Prop:=ts.length=xs.length/\∀(j:Nat) t x,ts[j]? =some t->xs[j]? =some x->R t x
theorem M6.nil {α:Type}{R:Addr->α->Prop}:M6 R [] ([]:List α):=⟨rfl,fun j t x h=>by cases h⟩
theorem M6.imp {α:Type}{R S:Addr->α->Prop}{ts:List Addr}{xs:List α}(h:M6 R ts xs)(f:∀t x,t∈ts->R t x->S t x):M6 S ts xs:=⟨h.1,fun j t x e1 e2=>f t x (dz8 e1) (h.2 j t x e1 e2)⟩
theorem M6.snoc {α:Type}{R:Addr->α->Prop}{ts:List Addr}{xs:List α}{t:Addr}{x:α}(h:M6 R ts xs)(r:R t x):M6 R (ts++[t]) (xs++[x]):=by
 refine ⟨by rw[dz9,dz9,h.1];rfl,fun j u y e1 e2=> ?_⟩
 by_cases hj:j < ts.length
 · rw[eb6 hj] at e1;rw[eb6 (by rw[<-h.1];exact hj)] at e2;exact h.2 j u y e1 e2
 · rw[eb9 (by omega)] at e1;rw[eb9 (by rw[<-h.1];omega),<-h.1] at e2;have jl:=(dz2.mp e1).1
   have:j - ts.length=0:=by simp at jl;omega
   rw[this] at e1 e2;cases e1;cases e2;exact r
theorem M6.get {α:Type}{R:Addr->α->Prop}{ts:List Addr}{xs:List α}(h:M6 R ts xs){j:Nat}{t:Addr}(e:ts[j]? =some t):∃x,xs[j]? =some x/\R t x:=by
 have jl:=(dz2.mp e).1;exact ⟨_,dz1 (by rw[<-h.1];exact jl),h.2 j t _ e (dz1 _)⟩
def O1 (H:Hp)(zs:List Addr):Hp:=fun a=>if a∈zs then none else H a
theorem O8 {H:Hp}{zs:List Addr}{a:Addr}(h:a∉zs):O1 H zs a=H a:=if_neg h
theorem V7 {H:Hp}{zs:List Addr}{a:Addr}{u:HO}(e:O1 H zs a=some u):a∉zs/\H a=some u:=by
 unfold O1 at e
 by_cases c:a∈zs
 · rw[if_pos c] at e;cases e
 · rw[if_neg c] at e;exact ⟨c,e⟩
theorem bn0 {H:Hp}{zs:List Addr}{o:Addr}{x:HO}(ho:o∈zs):O1 (c9 H o x) zs=O1 H zs:=funext fun a=>by
 unfold O1
 by_cases e:a∈zs
 · rw[if_pos e,if_pos e]
 · rw[if_neg e,if_neg e,g7 (show a≠o from fun z=>e (by rw[z];exact ho))]
theorem ca1 (H:Hp)(zs:List Addr):e8 (O1 H zs) H:=fun a u e=>(V7 e).2
theorem Z0 {H H':Hp}{zs:List Addr}{o:Addr}(ho:o∈zs)(k:j5 o H H'):e8 (O1 H zs) (O1 H' zs):=fun a u e=>by
 obtain ⟨c,e⟩:=V7 e;rw[O8 c];exact k a u e (fun z=>c (by rw[z];exact ho))
theorem L4 {H H':Hp}{zs:List Addr}(s:e8 H H'):e8 (O1 H zs) (O1 H' zs):=fun a u e=>by
 obtain ⟨c,e⟩:=V7 e;rw[O8 c];exact s a u e
theorem ca2 {H H':Hp}{zs:List Addr}{o:Addr}(s:e8 H H')(ho:H o=none):e8 (O1 H zs) (O1 H' (o::zs)):=fun a u e=>by
 obtain ⟨c,e⟩:=V7 e;rw[O8 fun z=>(ea8.mp z).elim (fun y=>by rw[y,ho] at e;cases e) c];exact s a u e
theorem ca3 {H:Hp}{zs:List Addr}{o:Addr}:e8 (O1 H (o::zs)) (O1 H zs):=fun a u e=>by
 obtain ⟨c,e⟩:=V7 e;rw[O8 fun z=>c (ea0 _ z)];exact e
def U7 (H:Hp)(zs:List Addr):Prop:=∀z∈zs,∃u,H z=some u
theorem U7.keep {H H':Hp}{zs:List Addr}(h:U7 H zs)(s:e8 H H'):U7 H' zs:=fun z hz=>by
 obtain ⟨u,e⟩:=h z hz;exact ⟨u,s _ _ e⟩
theorem U7.cons {H:Hp}{zs:List Addr}{o:Addr}{u:HO}(h:U7 H zs)(e:H o=some u):U7 H (o::zs):=fun z hz=>by
 rcases ea8.mp hz with rfl|hz
 · exact ⟨u,e⟩
 · exact h z hz
theorem U7.out {H:Hp}{zs:List Addr}{a:Addr}(h:U7 H zs)(e:H a=none):a∉zs:=fun z=>by
 obtain ⟨u,e'⟩:=h a z;rw[e] at e';cases e'
def pk (rs:List (List Int))(i:Nat)(r:List Int)(b:Nat):List Int×List (List Int):=(r.drop b++r.take b,rs.take i++rs.drop (i+1))
def ae5 (rs:List (List Int))(i:Nat)(r:List Int):List (List Int×List (List Int)):=(ed0 r.length).map (pk rs i r)
def L5 (rs:List (List Int)):Nat->List (List Int×List (List Int))
 |0=>[]
 |i+1=>L5 rs i++ae5 rs i (rs.getD i [])
def aj5 (H:Hp)(t:Addr)(x:List Int×List (List Int)):Prop:=∃(a l:Addr) (as:List Addr),H t=some (.tup [.ref a,.ref l])/\H a=some (.lst (x.1.map V.int))/\H l=some (.lst (as.map V.ref))/\o3 H as x.2
theorem aj5.keep {H H':Hp}{t:Addr}{x:List Int×List (List Int)}(h:aj5 H t x)(s:e8 H H'):aj5 H' t x:=by
 obtain ⟨a,l,as,h1,h2,h3,h4⟩:=h;exact ⟨a,l,as,s _ _ h1,s _ _ h2,s _ _ h3,B6 h4 fun b _ o e=>s b o e⟩
theorem bq7 (rs:List (List Int))(h:∀r∈rs,r.length<=40):∀i,i<=rs.length->(L5 rs i).length<=40*i
 |0,_=>eb4 _
 |i+1,hi=>by
  have:=bq7 rs h i (by omega);show (L5 rs i++ae5 rs i (rs.getD i [])).length<=_;rw[dz9];unfold ae5;rw[dz0,ec5]
  have:(rs.getD i []).length<=40:=by
    rw[dz5,dz1 (by omega)];exact h _ (ec6 _)
  omega
theorem ct1 {H:Hp}{as:List Addr}{rs:List (List Int)}(h:o3 H as rs)(i:Nat):o3 H (as.take i) (rs.take i):=
 ⟨by rw[eb2,eb2,h.1],fun j a r e1 e2=>by
   rw[ep1] at e1 e2
   by_cases c:j < i
   · rw[if_pos c] at e1 e2;exact h.2 j a r e1 e2
   · rw[if_neg c] at e1;cases e1⟩
theorem ct2 {H:Hp}{as:List Addr}{rs:List (List Int)}(h:o3 H as rs)(i:Nat):o3 H (as.drop i) (rs.drop i):=
 ⟨by rw[ed2,ed2,h.1],fun j a r e1 e2=>by
   rw[el5] at e1 e2
   exact h.2 _ a r e1 e2⟩
def bn1:Sp:=fun vs H Q _=>∃(l:Addr) (as:List Addr) (rs:List (List Int)) (zs:List Addr),vs=[.ref l]/\H l=some (.lst (as.map V.ref))/\o3 (O1 H zs) as rs/\U7 H zs/\rs.length<=40/\(∀r∈rs,r.length<=40)/\∀(o:Addr) (ts:List Addr) (H':Hp),H o=none->e8 H H'->H' o=some (.lst (ts.map V.ref))->M6 (aj5 (O1 H' (o::zs))) ts (L5 rs rs.length)->Q (.ref o) H'
theorem U0:m9 ["rings","picks","at","ring","left","begin"] ["rings"] (j7 as5):=⟨rfl,rfl,rfl,by decide+kernel,rfl,by decide+kernel,by decide+kernel⟩
theorem cd4 {f:Addr}{fd:FuncData}(F:C7 K "picks_of" "picks_of" as5 f fd)(B:Bl mg):n6 P w K mg base E9 1 f fd ["rings"] bn1:=by
 refine F.ok U0 (fun vs H Q E h=> ?_) (fun cdv A outer s H vs Q E hr h=> ?_)
 · obtain ⟨l,as,rs,zs,rfl,hl,rows,thz,lr,lr2,q⟩:=h;rfl
 · obtain ⟨l,as,rs,zs,rfl,hl,rows,thz,lr,lr2,q⟩:=h;refine ⟨_,@c7 _ _ _ _ _ (@i4 _ _ (1) _ _ _ _ U0.nd rfl (Or.inl rfl) (@o8 _ _ _ _ (@c6 _)) (by rfl) (by first|exact .inl rfl|exact .inr rfl|assumption)) (@c7 _ _ _ _ _ (@o6 _ _ _ _ _ _ _ _ PassesOwn.never rfl (@ao1 _ _ _ _ _ _ _ _ B.enum (@c5 _ _ _ _ _ (pv 0) (@c6 _) (by rfl)) (by rfl) (by rfl)) (@X2 _ _ _ _ _ _ rfl (@C4 _ _ _ _ _ (@j6 _ _ (2) _ U0.nd rfl (Or.inl rfl) (by first|exact .inl rfl|exact .inr rfl|assumption)) (@C4 _ _ _ _ _ (@j6 _ _ (3) _ U0.nd rfl (Or.inl rfl) (by first|exact .inl rfl|exact .inr rfl|assumption)) (@S9 _) (by rfl)) (by rfl)) (by rfl) (by rfl)) (@c7 _ _ _ _ _ (@i4 _ _ (4) _ _ _ _ U0.nd rfl (Or.inl rfl) (@i7 _ _ _ _ _ _ _ _ an3 (@ab4 _ _ _ _ _ _ _ _ _ _ ag3 (pv 0) (@ag2 _) (@ab3 _ _ _ (pv 2))) (@ab4 _ _ _ _ _ _ _ _ _ _ ag3 (pv 0) (@ab3 _ _ _ (@i7 _ _ _ _ _ _ _ _ E7 (pv 2) (@g9 _ _ _ _))) (@ag2 _))) (by rfl) (by first|exact .inl rfl|exact .inr rfl|assumption)) (@g6 _ _ _ (@o6 _ _ _ _ _ _ _ _ PassesOwn.never rfl (@K3 _ _ _ _ _ _ (by rfl) B.range (@c5 _ _ _ _ _ (@x6 _ _ _ _ _ B.len (@c5 _ _ _ _ _ (pv 3) (@c6 _) (by rfl)) (by rfl) (by rfl)) (@c6 _) (by rfl)) (by rfl)) (@j6 _ _ (5) _ U0.nd rfl (Or.inl rfl) (by first|exact .inl rfl|exact .inr rfl|assumption)) (@g6 _ _ _ (@y6 _ _ _ _ (@E4 _ _ _ _ _ _ _ (pv 1) (@c5 _ _ _ _ _ (@ad8 _ _ _ _ _ (@c5 _ _ _ _ _ (@i7 _ _ _ _ _ _ _ _ an3 (@ab4 _ _ _ _ _ _ _ _ _ _ ag3 (pv 3) (@ab3 _ _ _ (pv 5)) (@ag2 _)) (@ab4 _ _ _ _ _ _ _ _ _ _ ag3 (pv 3) (@ag2 _) (@ab3 _ _ _ (pv 5)))) (@c5 _ _ _ _ _ (pv 4) (@c6 _) (by rfl)) (by rfl))) (@c6 _) (by rfl)) (by rfl) (by rfl) (by rfl) (by rfl) (by rfl)) (by rfl))) (by intro _;rfl)))) (by intro _;rfl)) (@g6 _ _ _ (@l8 _ _ _ _ (pv 1)))),?_⟩
   try dsimp only[x9,Cx.nox,Cx.wish]
   refine ⟨eb4 _,fun o ho=> ?_⟩;have s1:e8 H (c9 H o (.lst [])):=e8.upd_new ho;have h1o:(c9 H o (.lst [])) o=some (.lst (([]:List Addr).map V.ref)):=c8;generalize (c9 H o (.lst []))=H1 at s1 h1o ⊢;have nlo:l≠o:=g8 hl ho
   refine ⟨_,rfl,l,rfl,⟨_,h8.of (s1 _ _ hl)⟩,ah5 (K:=K) (a:=l) (xs:=as.map V.ref) (fun i σ H2=>∃(ts:List Addr) (v2 v3 v4 v5:Option V),σ=[some (.ref l),some (.ref o),v2,v3,v4,v5]/\H2 o=some (.lst (ts.map V.ref))/\M6 (aj5 (O1 H2 (o::zs))) ts (L5 rs i)/\e8 H H2)
     ⟨[],none,none,none,none,rfl,h1o,M6.nil,s1⟩ (fun i σ H2 _ ⟨_,_,_,_,_,_,_,_,s⟩=>h8.of (s _ _ hl)) ?_ ?_⟩
   · rintro i y σ H2 tt hi ⟨ts,v2,v3,v4,v5,rfl,h2o,ats,s2⟩ htt
     obtain ⟨a,ha,rfl⟩:∃a,as[i]? =some a/\y=V.ref a:=by
       rw[dz4] at hi
       cases e:as[i]? with
       |none=>rw[e] at hi;cases hi
       |some a=>rw[e] at hi;exact ⟨a,rfl,(Option.some.inj hi).symm⟩
     have il:i < rs.length:=by rw[<-rows.1];exact (dz2.mp ha).1
     obtain ⟨r,hr⟩:∃r,rs[i]? =some r:=⟨_,dz1 il⟩
     have er:rs.getD i []=r:=by rw[dz5,hr];rfl
     have lr40:=lr2 r (dz8 hr);have h0a:=(V7 (rows.2 i a r ha hr)).2;have s3:e8 H2 (c9 H2 tt (.tup [.int (i:Int),.ref a])):=e8.upd_new htt;have h3t:(c9 H2 tt (.tup [.int (i:Int),.ref a])) tt=some (.tup [.int (i:Int),.ref a]):=c8;generalize (c9 H2 tt (.tup [.int (i:Int),.ref a]))=H3 at s3 h3t ⊢;refine ⟨tt,_,rfl,O3.of h3t,rfl,_,_,rfl,_,_,rfl,rfl,?_⟩;have s03:=s2.trans s3
     have la:(as.map V.ref).length=rs.length:=by rw[dz0,rows.1]
     refine ⟨_,rfl,_,rfl,_,rfl,l,_,rfl,h8.of (s03 _ _ hl),fun x1 hx1=> ?_⟩;rw[cp8 (as.map V.ref) i (by omega),<-et2];have s4:e8 H3 (c9 H3 x1 (.lst ((as.take i).map V.ref))):=e8.upd_new hx1;have h4x:(c9 H3 x1 (.lst ((as.take i).map V.ref))) x1=some (.lst ((as.take i).map V.ref)):=c8;generalize (c9 H3 x1 (.lst ((as.take i).map V.ref)))=H4 at s4 h4x ⊢;have s04:=s03.trans s4;refine ⟨_,rfl,_,rfl,_,_,rfl,rfl,_,rfl,l,_,rfl,h8.of (s04 _ _ hl),fun x2 hx2=> ?_⟩;rw[show ((i:Int)+1)=((i+1:Nat):Int) by omega,bd7 (as.map V.ref) (i+1) (by omega),<-List.map_drop];have s5:e8 H4 (c9 H4 x2 (.lst ((as.drop (i+1)).map V.ref))):=e8.upd_new hx2;have h5x:(c9 H4 x2 (.lst ((as.drop (i+1)).map V.ref))) x2=some (.lst ((as.drop (i+1)).map V.ref)):=c8;generalize (c9 H4 x2 (.lst ((as.drop (i+1)).map V.ref)))=H5 at s5 h5x ⊢;refine ⟨x1,x2,_,_,rfl,rfl,s5 _ _ h4x,h5x,eg2 (x8 (by simp only[dz0,eb2,ed2];have:=rows.1;omega)),fun L hL=> ?_⟩;rw[<-dz6];have s6:e8 H5 (c9 H5 L (.lst ((as.take i++as.drop (i+1)).map V.ref))):=e8.upd_new hL;have h6L:(c9 H5 L (.lst ((as.take i++as.drop (i+1)).map V.ref))) L=some (.lst ((as.take i++as.drop (i+1)).map V.ref)):=c8;generalize (c9 H5 L (.lst ((as.take i++as.drop (i+1)).map V.ref)))=H6 at s6 h6L ⊢;have s26:=((s3.trans s4).trans s5).trans s6;have s06:=s2.trans s26;have th2:U7 H2 (o::zs):=(thz.keep s2).cons h2o;have nLo:L∉o::zs:=(th2.keep ((s3.trans s4).trans s5)).out hL
     have nLo1:L≠o:=fun z=>nLo (z▸dz7)
     have rowsO:o3 (O1 H6 (o::zs)) (as.take i++as.drop (i+1)) (rs.take i++rs.drop (i+1)):=B6 (bd9 (ct1 rows i) (ct2 rows (i+1))) fun b _ u e=>ca2 s06 ho b u e
     have ats6:M6 (aj5 (O1 H6 (o::zs))) ts (L5 rs i):=ats.imp fun t x _ h=>h.keep (L4 s26)
     refine ⟨_,rfl,a,_,rfl,.inl (h8.of (s06 _ _ h0a)),_,rfl,by rw[dz0];omega,by rw[dz0];omega,?_⟩;rw[dz0,show ((r.length:Int)).toNat=r.length by omega];have tl:=ats.1;have pl:=bq7 rs lr2 i (by omega)
     refine E3 (lo:=0) (n:=r.length) (fun b σ H7=>∃(ts:List Addr) (v5:Option V),σ=[some (.ref l),some (.ref o),some (.int (i:Int)),some (.ref a),some (.ref L),v5]/\H7 o=some (.lst (ts.map V.ref))/\M6 (aj5 (O1 H7 (o::zs))) ts (L5 rs i++(ed0 b).map (pk rs i r))/\j5 o H6 H7)
       ⟨ts,v5,rfl,s26 _ _ h2o,by rw[List.range_zero,em6,eb8];exact ats6,j5.refl _ _⟩ ?_ ?_
     · rintro b σ H7 hb ⟨ts,v5,rfl,h7o,ats7,kb7⟩
       have e0:(0:Int)+(b:Int)=(b:Int):=by omega
       rw[e0];have s07:e8 H H7:=s06.kb kb7 ho;have h7a:=s07 _ _ h0a
       have lts:ts.length<=1700:=by
         have:=ats7.1;rw[dz9,dz0,ec5] at this;omega
       refine ⟨_,rfl,.inl ⟨rfl,_,h8.of h7o⟩,_,rfl,_,rfl,_,rfl,a,_,rfl,h8.of h7a,fun y1 hy1=> ?_⟩;rw[bd7 (r.map V.int) b (by rw[dz0];omega),<-List.map_drop];have s8:e8 H7 (c9 H7 y1 (.lst ((r.drop b).map V.int))):=e8.upd_new hy1;have h8y:(c9 H7 y1 (.lst ((r.drop b).map V.int))) y1=some (.lst ((r.drop b).map V.int)):=c8;generalize (c9 H7 y1 (.lst ((r.drop b).map V.int)))=H8 at s8 h8y ⊢;refine ⟨_,rfl,_,rfl,_,rfl,a,_,rfl,h8.of (s8 _ _ h7a),fun y2 hy2=> ?_⟩;rw[cp8 (r.map V.int) b (by rw[dz0];omega),<-et2];have s9:e8 H8 (c9 H8 y2 (.lst ((r.take b).map V.int))):=e8.upd_new hy2;have h9y:(c9 H8 y2 (.lst ((r.take b).map V.int))) y2=some (.lst ((r.take b).map V.int)):=c8;generalize (c9 H8 y2 (.lst ((r.take b).map V.int)))=H9 at s9 h9y ⊢;refine ⟨y1,y2,_,_,rfl,rfl,s9 _ _ h8y,h9y,eg2 (x8 (by simp only[dz0,eb2,ed2];omega)),fun c hc=> ?_⟩;rw[<-dz6];have s10:e8 H9 (c9 H9 c (.lst ((r.drop b++r.take b).map V.int))):=e8.upd_new hc;have h10c:(c9 H9 c (.lst ((r.drop b++r.take b).map V.int))) c=some (.lst ((r.drop b++r.take b).map V.int)):=c8;generalize (c9 H9 c (.lst ((r.drop b++r.take b).map V.int)))=H10 at s10 h10c ⊢;refine ⟨_,rfl,(show 2<=sizeLine by decide),fun t ht=> ?_⟩;have s11:e8 H10 (c9 H10 t (.tup [.ref c,.ref L])):=e8.upd_new ht;have h11t:(c9 H10 t (.tup [.ref c,.ref L])) t=some (.tup [.ref c,.ref L]):=c8;generalize (c9 H10 t (.tup [.ref c,.ref L]))=H11 at s11 h11t ⊢;have s79:=s8.trans s9;have s710:=s79.trans s10;have s711:=s710.trans s11;have th7:U7 H7 (o::zs):=(thz.keep s07).cons h7o;have nco:c∉o::zs:=(th7.keep s79).out hc;have nto:t∉o::zs:=(th7.keep s710).out ht;refine ⟨o,_,_,rfl,rfl,s711 _ _ h7o,eb5 (show _<=2000 by rw[dz0];omega) (by decide),?_⟩;rw[show ts.map V.ref++[V.ref t]=(ts++[t]).map V.ref by rw[dz6];rfl];refine ⟨ts++[t],_,rfl,c8,?_,(kb7.trans (s711.but o)).upd_a⟩;rw[bn0 dz7,ej6,dz6,<-eb3];refine M6.snoc (ats7.imp fun t x _ h=>h.keep (L4 s711)) ?_;have h7L:=kb7 _ _ h6L nLo1;refine ⟨c,L,_,by rw[O8 nto];exact h11t,by rw[O8 nco];exact s11 _ _ h10c,by rw[O8 nLo];exact s711 _ _ h7L,?_⟩
       exact B6 rowsO fun b _ u e=>(Z0 dz7 (kb7.trans (s711.but o))) b u e
     · rintro σ H7 ⟨ts,v5,rfl,h7o,ats7,kb7⟩;refine ⟨ts,_,_,_,v5,rfl,h7o,?_,s06.kb kb7 ho⟩;show M6 _ ts (L5 rs i++ae5 rs i (rs.getD i []));rw[er];exact ats7
   · rintro σ H2 ⟨ts,v2,v3,v4,v5,rfl,h2o,ats,s2⟩;rw[dz0,rows.1] at ats;exact ⟨_,rfl,q o ts H2 ho s2 h2o ats⟩
def nxC (x:List (List Int)×List (List Int)):List (List (List Int)×List (List Int)):=(L5 x.2 x.2.length).map fun y=>(x.1++[y.1],y.2)
def C1 (rs:List (List Int)):Nat->List (List (List Int)×List (List Int))
 |0=>[([rs.getD 0 []],rs.drop 1)]
 |k+1=>(C1 rs k).flatMap nxC
def R1 (H:Hp)(t:Addr)(x:List (List Int)×List (List Int)):Prop:=∃(c l:Addr) (cs as:List Addr),H t=some (.tup [.ref c,.ref l])/\H c=some (.lst (cs.map V.ref))/\o3 H cs x.1/\H l=some (.lst (as.map V.ref))/\o3 H as x.2
theorem R1.keep {H H':Hp}{t:Addr}{x:List (List Int)×List (List Int)}(h:R1 H t x)(s:e8 H H'):R1 H' t x:=by
 obtain ⟨c,l,cs,as,h1,h2,h3,h4,h5⟩:=h;exact ⟨c,l,cs,as,s _ _ h1,s _ _ h2,B6 h3 fun b _ o e=>s b o e,s _ _ h4,B6 h5 fun b _ o e=>s b o e⟩
theorem bf3 {rs:List (List Int)}:∀(i:Nat) {y:List Int×List (List Int)},y∈L5 rs i->y.2.length<=rs.length/\∀r∈y.2,r∈rs
 |0,y,h=>by cases h
 |i+1,y,h=>by
  rcases ea3.mp h with z|z
  · exact bf3 i z
  · obtain ⟨b,_,rfl⟩:=ea2.mp z;refine ⟨?_,fun r hr=> ?_⟩
    · show (rs.take i++rs.drop (i+1)).length<=_;rw[dz9,eb2,ed2];omega
    · rcases ea3.mp hr with w|w
      · exact ef0 w
      · exact em3 w
theorem ay5 {rs:List (List Int)}:∀(k:Nat) {x:List (List Int)×List (List Int)},x∈C1 rs k->x.2.length<=rs.length/\(∀r∈x.2,r∈rs)/\x.1.length=k+1
 |0,x,h=>by
  rw[ea1.mp h];exact ⟨by show (rs.drop 1).length<=_;rw[ed2];omega,fun r hr=>em3 hr,rfl⟩
 |k+1,x,h=>by
  obtain ⟨x',h',z⟩:=ef4.mp h;obtain ⟨y,hy,rfl⟩:=ea2.mp z;obtain ⟨a,b,c⟩:=ay5 k h';obtain ⟨d,e⟩:=bf3 _ hy;exact ⟨ea4 d a,fun r hr=>b r (e r hr),by show (x'.1++[y.1]).length=_;rw[dz9,c];rfl⟩
def au2:Sp:=fun vs H Q _=>∃(l:Addr) (as:List Addr) (rs:List (List Int)) (zs:List Addr) (part:Nat),vs=[.ref l,.int (part:Int)]/\H l=some (.lst (as.map V.ref))/\l∉zs/\o3 (O1 H zs) as rs/\U7 H zs/\1<=rs.length/\rs.length<=40/\(∀r∈rs,r.length<=40)/\1<=part/\part<=40/\(∀k,k < part->(C1 rs k).length<=2000)/\∀(o:Addr) (ts:List Addr) (H':Hp),H o=none->e8 H H'->H' o=some (.lst (ts.map V.ref))->M6 (R1 (O1 H' zs)) ts (C1 rs (part - 1))->Q (.ref o) H'
theorem L6:m9 ["rings","part","chains","taken","longer","chain","left","ring","rest"] ["rings","part"] (j7 al9):=⟨rfl,rfl,rfl,by decide+kernel,rfl,by decide+kernel,by decide+kernel⟩
theorem ca4 {f:Addr}{fd:FuncData}(F:C7 K "chains_of" "chains_of" al9 f fd)(B:Bl mg)(c_picks_of:n0 P w K mg base "picks_of" 1 ["rings"] bn1):n6 P w K mg base E9 2 f fd ["rings","part"] au2:=by
 refine F.ok L6 (fun vs H Q E h=> ?_) (fun cdv A outer s H vs Q E hr h=> ?_)
 · obtain ⟨l,as,rs,zs,part,rfl,hl,nlz,rows,thz,lr1,lr,lr2,p1,p2,few,q⟩:=h;rfl
 · obtain ⟨l,as,rs,zs,part,rfl,hl,nlz,rows,thz,lr1,lr,lr2,p1,p2,few,q⟩:=h;have hr_picks_of:l9 1 _:=hr.mono (by decide);refine ⟨_,@c7 _ _ _ _ _ (@i4 _ _ (2) _ _ _ _ L6.nd rfl (Or.inl rfl) (@o8 _ _ _ _ (@c5 _ _ _ _ _ (@ad8 _ _ _ _ _ (@c5 _ _ _ _ _ (@o8 _ _ _ _ (@c5 _ _ _ _ _ (@J9 _ _ _ _ _ _ _ C5 (pv 0) (@g9 _ _ _ _) (fun _ _=>rfl)) (@c6 _) (by rfl))) (@c5 _ _ _ _ _ (@ab4 _ _ _ _ _ _ _ _ _ _ ag3 (pv 0) (@ab3 _ _ _ (@g9 _ _ _ _)) (@ag2 _)) (@c6 _) (by rfl)) (by rfl))) (@c6 _) (by rfl))) (by rfl) (by first|exact .inl rfl|exact .inr rfl|assumption)) (@c7 _ _ _ _ _ (@o6 _ _ _ _ _ _ _ _ PassesOwn.never rfl (@R8 _ _ _ _ _ _ _ (by rfl) B.range (@c5 _ _ _ _ _ (@g9 _ _ _ _) (@c5 _ _ _ _ _ (pv 1) (@c6 _) (by rfl)) (by rfl)) (by rfl) (by rfl)) (@j6 _ _ (3) _ L6.nd rfl (Or.inl rfl) (by first|exact .inl rfl|exact .inr rfl|assumption)) (@c7 _ _ _ _ _ (@i4 _ _ (4) _ _ _ _ L6.nd rfl (Or.inl rfl) (@o8 _ _ _ _ (@c6 _)) (by rfl) (by first|exact .inl rfl|exact .inr rfl|assumption)) (@c7 _ _ _ _ _ (@o6 _ _ _ _ _ _ _ _ PassesOwn.never rfl (@G8 _ _ _ _ (pv 2)) (@X2 _ _ _ _ _ _ rfl (@C4 _ _ _ _ _ (@j6 _ _ (5) _ L6.nd rfl (Or.inl rfl) (by first|exact .inl rfl|exact .inr rfl|assumption)) (@C4 _ _ _ _ _ (@j6 _ _ (6) _ L6.nd rfl (Or.inl rfl) (by first|exact .inl rfl|exact .inr rfl|assumption)) (@S9 _) (by rfl)) (by rfl)) (by rfl) (by rfl)) (@g6 _ _ _ (@o6 _ _ _ _ _ _ _ _ PassesOwn.never rfl (@G8 _ _ _ _ (@i8 _ _ _ _ _ _ _ _ _ _ c_picks_of hr_picks_of (@c5 _ _ _ _ _ (pv 6) (@c6 _) (by rfl)) (by rfl) (by decide) (by rfl) (by rfl))) (@X2 _ _ _ _ _ _ rfl (@C4 _ _ _ _ _ (@j6 _ _ (7) _ L6.nd rfl (Or.inl rfl) (by first|exact .inl rfl|exact .inr rfl|assumption)) (@C4 _ _ _ _ _ (@j6 _ _ (8) _ L6.nd rfl (Or.inl rfl) (by first|exact .inl rfl|exact .inr rfl|assumption)) (@S9 _) (by rfl)) (by rfl)) (by rfl) (by rfl)) (@g6 _ _ _ (@y6 _ _ _ _ (@E4 _ _ _ _ _ _ _ (pv 4) (@c5 _ _ _ _ _ (@ad8 _ _ _ _ _ (@c5 _ _ _ _ _ (@i7 _ _ _ _ _ _ _ _ an3 (pv 5) (@o8 _ _ _ _ (@c5 _ _ _ _ _ (pv 7) (@c6 _) (by rfl)))) (@c5 _ _ _ _ _ (pv 8) (@c6 _) (by rfl)) (by rfl))) (@c6 _) (by rfl)) (by rfl) (by rfl) (by rfl) (by rfl) (by rfl)) (by rfl))) (by intro _;rfl))) (by intro _;rfl)) (@g6 _ _ _ (@i4 _ _ (2) _ _ _ _ L6.nd rfl (Or.inl rfl) (pv 4) (by rfl) (by first|exact .inl rfl|exact .inr rfl|assumption))))) (by intro _;rfl)) (@g6 _ _ _ (@l8 _ _ _ _ (pv 2)))),?_⟩
   try dsimp only[x9,Cx.nox,Cx.wish]
   obtain ⟨a0,as',rfl⟩:∃a0 as',as=a0::as':=by
     cases as with
     |nil=>have:=rows.1;simp at this;omega
     |cons a t=>exact ⟨a,t,rfl⟩
   obtain ⟨r0,rs',rfl⟩:∃r0 rs',rs=r0::rs':=by
     cases rs with
     |nil=>simp at lr1
     |cons a t=>exact ⟨a,t,rfl⟩
   have h0:O1 H zs a0=some (.lst (r0.map V.int)):=rows.2 0 a0 r0 rfl rfl;refine ⟨_,rfl,l,_,_,_,rfl,rfl,h8.of hl,(G9 (j:=0) rfl),(show 1<=sizeLine by decide),fun c0 hc0=> ?_⟩;have s1:e8 H (c9 H c0 (.lst [V.ref a0])):=e8.upd_new hc0;have h1c:(c9 H c0 (.lst [V.ref a0])) c0=some (.lst (([a0]:List Addr).map V.ref)):=c8;generalize (c9 H c0 (.lst [V.ref a0]))=H1 at s1 h1c ⊢;refine ⟨_,rfl,_,rfl,l,_,rfl,h8.of (s1 _ _ hl),fun x1 hx1=> ?_⟩;rw[show Y2 ((a0::as').map V.ref) (some 1) none=as'.map V.ref from bd7 ((a0::as').map V.ref) 1 (by simp)];have s2:e8 H1 (c9 H1 x1 (.lst (as'.map V.ref))):=e8.upd_new hx1;have h2x:(c9 H1 x1 (.lst (as'.map V.ref))) x1=some (.lst (as'.map V.ref)):=c8;generalize (c9 H1 x1 (.lst (as'.map V.ref)))=H2 at s2 h2x ⊢;refine ⟨(show 2<=sizeLine by decide),fun t0 ht0=> ?_⟩;have s3:e8 H2 (c9 H2 t0 (.tup [.ref c0,.ref x1])):=e8.upd_new ht0;have h3t:(c9 H2 t0 (.tup [.ref c0,.ref x1])) t0=some (.tup [.ref c0,.ref x1]):=c8;generalize (c9 H2 t0 (.tup [.ref c0,.ref x1]))=H3 at s3 h3t ⊢;refine ⟨(show 1<=sizeLine by decide),fun F0 hF0=> ?_⟩;have s4:e8 H3 (c9 H3 F0 (.lst [V.ref t0])):=e8.upd_new hF0;have h4F:(c9 H3 F0 (.lst [V.ref t0])) F0=some (.lst (([t0]:List Addr).map V.ref)):=c8;generalize (c9 H3 F0 (.lst [V.ref t0]))=H4 at s4 h4F ⊢;have s02:=s1.trans s2;have s03:=s02.trans s3;have s04:=s03.trans s4;have n1:c0∉zs:=thz.out hc0;have n2:x1∉zs:=(thz.keep s1).out hx1;have n3:t0∉zs:=(thz.keep s02).out ht0
   have ch0:R1 (O1 H4 zs) t0 ([r0],rs'):=by
     refine ⟨c0,x1,[a0],as',by rw[O8 n3];exact s4 _ _ h3t,by rw[O8 n1];exact ((s2.trans s3).trans s4) _ _ h1c,⟨rfl,fun j b r e1 e2=> ?_⟩,by rw[O8 n2];exact (s3.trans s4) _ _ h2x,⟨by have:=rows.1;simpa using this,fun j b r e1 e2=> ?_⟩⟩
     · rcases j with _|j
       · cases e1;cases e2;exact L4 s04 _ _ h0
       · cases e1
     · exact L4 s04 _ _ (rows.2 (j+1) b r e1 e2)
   refine ⟨_,rfl,1,(part:Int),rfl,⟨by decide,by decide,by omega,by omega⟩,?_⟩;rw[show ((part:Int) - 1).toNat=part - 1 by omega]
   refine E3 (lo:=1) (n:=part - 1) (fun i σ H5=>∃(F:Addr) (ts:List Addr) (v3 v4 v5 v6 v7 v8:Option V),σ=[some (.ref l),some (.int (part:Int)),some (.ref F),v3,v4,v5,v6,v7,v8]/\H5 F=some (.lst (ts.map V.ref))/\M6 (R1 (O1 H5 zs)) ts (C1 (r0::rs') i)/\e8 H H5/\H F=none)
     ⟨F0,[t0],none,none,none,none,none,none,rfl,h4F,⟨rfl,fun j t x e1 e2=>by
       rcases j with _|j
       · cases e1;cases e2;exact ch0
       · cases e1⟩,s04,s03.free hF0⟩ ?_ ?_
   · rintro i σ H5 hi ⟨F,ts,v3,v4,v5,v6,v7,v8,rfl,h5F,ats,s05,hF⟩;refine ⟨eb4 _,fun L hL=> ?_⟩;have nFL:F≠L:=g8 h5F hL;have hL0:H L=none:=s05.free hL;have s6:e8 H5 (c9 H5 L (.lst [])):=e8.upd_new hL;have h6L:(c9 H5 L (.lst [])) L=some (.lst (([]:List Addr).map V.ref)):=c8;generalize (c9 H5 L (.lst []))=H6 at s6 h6L ⊢
     have ats6:M6 (R1 (O1 H6 (L::zs))) ts (C1 (r0::rs') i):=ats.imp fun t x _ h=>h.keep (ca2 s6 hL)
     have few1:=few (i+1) (by omega)
     refine ⟨_,rfl,F,rfl,⟨_,h8.of (s6 _ _ h5F)⟩,K1 (K:=K) (a:=F) (xs:=ts.map V.ref) (fun j σ H7=>∃(us:List Addr) (v5 v6 v7 v8:Option V),σ=[some (.ref l),some (.int (part:Int)),some (.ref F),some (.int (1+(i:Int))),some (.ref L),v5,v6,v7,v8]/\H7 L=some (.lst (us.map V.ref))/\M6 (R1 (O1 H7 (L::zs))) us (((C1 (r0::rs') i).take j).flatMap nxC)/\j5 L H6 H7)
       ⟨[],v5,v6,v7,v8,rfl,h6L,M6.nil,j5.refl _ _⟩ (fun j σ H7 _ ⟨_,_,_,_,_,_,_,_,k⟩=>h8.of (k _ _ (s6 _ _ h5F) nFL)) ?_ ?_⟩
     · rintro j y σ H7 hj ⟨us,v5,v6,v7,v8,rfl,h7L,atu,kb7⟩
       obtain ⟨t,ht,rfl⟩:∃t,ts[j]? =some t/\y=V.ref t:=by
         rw[dz4] at hj
         cases e:ts[j]? with
         |none=>rw[e] at hj;cases hj
         |some a=>rw[e] at hj;exact ⟨a,rfl,(Option.some.inj hj).symm⟩
       obtain ⟨x,hx,cx⟩:=ats6.get ht;obtain ⟨c,xl,cs,bs,g1,g2,g3,g4,g5⟩:=cx.keep (Z0 dz7 kb7);obtain ⟨b1,b2,b3⟩:=ay5 i (dz8 hx);refine ⟨t,_,rfl,O3.of (V7 g1).2,rfl,_,_,rfl,_,_,rfl,rfl,?_⟩;have s07:e8 H H7:=(s05.trans s6).kb kb7 hL0;have th7:U7 H7 (L::zs):=(thz.keep s07).cons h7L;refine ⟨_,rfl,xl,bs,x.2,L::zs,rfl,(V7 g4).2,g5,th7,by omega,fun r hr=>lr2 r (b2 r hr),fun o ps H8 ho s8 h8o atp=> ?_⟩;have noL:o≠L:=(g8 h7L ho).symm;have cx8:R1 (O1 H8 (L::zs)) t x:=R1.keep ⟨c,xl,cs,bs,g1,g2,g3,g4,g5⟩ (L4 s8);have lenP:=atp.1
       refine ⟨o,rfl,⟨_,h8.of h8o⟩,K1 (K:=K) (a:=o) (xs:=ps.map V.ref) (fun k σ H9=>∃(us:List Addr) (v7 v8:Option V),σ=[some (.ref l),some (.int (part:Int)),some (.ref F),some (.int (1+(i:Int))),some (.ref L),some (.ref c),some (.ref xl),v7,v8]/\H9 L=some (.lst (us.map V.ref))/\M6 (R1 (O1 H9 (L::zs))) us (((C1 (r0::rs') i).take j).flatMap nxC++(nxC x).take k)/\j5 L H8 H9)
         ⟨us,v7,v8,rfl,s8 _ _ h7L,by rw[el4,eb8];exact atu.imp fun t x _ h=>h.keep (L4 s8),j5.refl _ _⟩ (fun k σ H9 _ ⟨_,_,_,_,_,_,kk⟩=>h8.of (kk _ _ h8o noL)) ?_ ?_⟩
       · rintro k y σ H9 hk ⟨us,v7,v8,rfl,h9L,at9,kb9⟩
         obtain ⟨t',ht',rfl⟩:∃t,ps[k]? =some t/\y=V.ref t:=by
           rw[dz4] at hk
           cases e:ps[k]? with
           |none=>rw[e] at hk;cases hk
           |some a=>rw[e] at hk;exact ⟨a,rfl,(Option.some.inj hk).symm⟩
         obtain ⟨y,hy,py⟩:=atp.get ht';obtain ⟨pa,pl,pas,q1,q2,q3,q4⟩:=(py.keep (Z0 (ea0 _ dz7) kb9)).keep ca3;obtain ⟨c',xl',cs',bs',f1,f2,f3,f4,f5⟩:=cx8.keep (Z0 dz7 kb9);have s79:=s8;have e1:=(V7 f1).2;have hc9:H9 c=some (.lst (cs.map V.ref)):=(V7 ((Z0 dz7 kb9) _ _ (L4 s8 _ _ g2))).2
         have g3':o3 (O1 H9 (L::zs)) cs x.1:=B6 g3 fun b _ u e=>(Z0 dz7 kb9) _ _ (L4 s8 _ _ e)
         have lcs:cs.length<=40:=by rw[g3.1,b3];omega
         have th9:U7 H9 (L::zs):=fun z hz=>by
           rcases ea8.mp hz with rfl|hz
           · exact ⟨_,h9L⟩
           · by_cases e:z=L
             · rw[e];exact ⟨_,h9L⟩
             · obtain ⟨u,hu⟩:=(th7.keep s8) z (ea0 _ hz);exact ⟨u,kb9 _ _ hu e⟩
         have hnx:(nxC x)[k]? =some (x.1++[y.1],y.2):=by
           unfold nxC;rw[dz4,hy];rfl
         have lus:us.length<=2000:=by
           rw[at9.1];refine ea4 ?_ few1;show _<=((C1 (r0::rs') i).flatMap nxC).length
           have ex:C1 (r0::rs') i=(C1 (r0::rs') i).take j++x::(C1 (r0::rs') i).drop (j+1):=by
             have jl:=(dz2.mp hx).1;have e3:=(dz2.mp hx).2;rw[<-e3,<-ei4 jl,eg5]
           have e4:=congrArg (fun z=>(z.flatMap nxC).length) ex;simp only[ei5,ee2,dz9] at e4;rw[e4,dz9,eb2];omega
         refine ⟨t',_,rfl,O3.of (V7 q1).2,rfl,_,_,rfl,_,_,rfl,rfl,?_⟩;refine ⟨_,rfl,.inl ⟨rfl,_,h8.of h9L⟩,_,rfl,_,rfl,(show 1<=sizeLine by decide),fun e he=> ?_⟩;have s10:e8 H9 (c9 H9 e (.lst [V.ref pa])):=e8.upd_new he;have h10e:(c9 H9 e (.lst [V.ref pa])) e=some (.lst [V.ref pa]):=c8;generalize (c9 H9 e (.lst [V.ref pa]))=H10 at s10 h10e ⊢;refine ⟨c,e,_,_,rfl,rfl,s10 _ _ hc9,h10e,eg2 (x8 (by simp only[dz0,ep6];omega)),fun d hd=> ?_⟩;rw[show cs.map V.ref++[V.ref pa]=(cs++[pa]).map V.ref by rw[dz6];rfl];have s11:e8 H10 (c9 H10 d (.lst ((cs++[pa]).map V.ref))):=e8.upd_new hd;have h11d:(c9 H10 d (.lst ((cs++[pa]).map V.ref))) d=some (.lst ((cs++[pa]).map V.ref)):=c8;generalize (c9 H10 d (.lst ((cs++[pa]).map V.ref)))=H11 at s11 h11d ⊢;refine ⟨_,rfl,(show 2<=sizeLine by decide),fun t2 ht2=> ?_⟩;have s12:e8 H11 (c9 H11 t2 (.tup [.ref d,.ref pl])):=e8.upd_new ht2;have h12t:(c9 H11 t2 (.tup [.ref d,.ref pl])) t2=some (.tup [.ref d,.ref pl]):=c8;generalize (c9 H11 t2 (.tup [.ref d,.ref pl]))=H12 at s12 h12t ⊢;have s911:=s10.trans s11;have s912:=s911.trans s12;have nd:d∉L::zs:=(th9.keep s10).out hd;have nt2:t2∉L::zs:=(th9.keep s911).out ht2;refine ⟨L,_,_,rfl,rfl,s912 _ _ h9L,eb5 (show _<=2000 by rw[dz0];omega) (by decide),?_⟩;rw[show us.map V.ref++[V.ref t2]=(us++[t2]).map V.ref by rw[dz6];rfl];refine ⟨us++[t2],_,_,rfl,c8,?_,(kb9.trans (s912.but L)).upd_a⟩;rw[bn0 dz7,l6 hnx,<-eb3];refine M6.snoc (at9.imp fun t x _ h=>h.keep (L4 s912)) ?_;refine ⟨d,pl,cs++[pa],pas,by rw[O8 nt2];exact h12t,by rw[O8 nd];exact s12 _ _ h11d,?_,L4 s912 _ _ q3,B6 q4 fun b _ u e=>L4 s912 _ _ e⟩;exact R9 (B6 g3' fun b _ u e=>L4 s912 _ _ e) (L4 s912 _ _ q2)
       · rintro σ H9 ⟨us,v7,v8,rfl,h9L,at9,kb9⟩;refine ⟨us,_,_,v7,v8,rfl,h9L,?_,kb7.trans ((s8.but L).trans kb9)⟩;rw[l6 hx,ei5,ee2,ek5,eb8];rw[dz0,lenP,show (L5 x.2 x.2.length).length=(nxC x).length by unfold nxC;rw[dz0],ec4] at at9;exact at9
     · rintro σ H7 ⟨us,v5,v6,v7,v8,rfl,h7L,atu,kb7⟩;rw[dz0,ats.1,ec4] at atu;exact ⟨_,rfl,L,us,_,_,_,_,_,_,rfl,h7L,atu.imp fun t x _ h=>h.keep ca3,(s05.trans s6).kb kb7 hL0,hL0⟩
   · rintro σ H5 ⟨F,ts,v3,v4,v5,v6,v7,v8,rfl,h5F,ats,s05,hF⟩;exact ⟨_,rfl,q F ts H5 hF s05 h5F ats⟩
end
end My
namespace My
local macro_rules|`(tactic|omega)=>`(tactic|lia)
open PySem L2 Mth
section
variable {P:Program} {w:World} {K:PySem.W.Frag} {mg:Str->Option Value} {base:Heap}
def R3 (es:List (Int×Int)):List (o9×V):=es.map fun e=>((Sum.inl e.1:o9),V.int e.2)
def K4 (rs:List Int):List (Int×Int):=(ed0 rs.length).map fun j=>(rs.getD j 0,rs.getD ((j+1)%rs.length) 0)
theorem dh1 {es:List (Int×Int)}{k v:Int}(h:k∉es.map (·.1)):Q7 (R3 es) (Sum.inl k:o9) (.int v)=R3 (es++[(k,v)]):=by
 have ki:KI (R3 es) (es.map (·.1)):=by unfold KI R3;rw[ee4,ee4];rfl
 rw[aq3 _ (bl3 ki h)];unfold R3;rw[dz6];rfl
def bb3:Sp:=fun vs H Q _=>∃(d r:Addr) (es:List (Int×Int)) (rs:List Int),vs=[.ref d,.ref r,.int 1]/\H d=some (.dK (R3 es))/\H r=some (.lst (rs.map V.int))/\rs.Nodup/\(∀x∈rs,x∉es.map (·.1))/\es.length<=400/\rs.length<=400/\∀(H':Hp),H' d=some (.dK (R3 (es++K4 rs)))->j5 d H H'->Q .non H'
theorem af4:m9 ["target","ring","steps","place","thing"] ["target","ring","steps"] (j7 V6):=⟨rfl,rfl,rfl,by decide+kernel,rfl,by decide+kernel,by decide+kernel⟩
theorem bs7 {f:Addr}{fd:FuncData}(F:C7 K "send_along" "send_along" V6 f fd)(B:Bl mg):n6 P w K mg base E9 1 f fd ["target","ring","steps"] bb3:=by
 refine F.ok af4 (fun vs H Q E h=> ?_) (fun cdv A outer s H vs Q E hr h=> ?_)
 · obtain ⟨d,r,es,rs,rfl,hd,hrr,nd,dis,le,lr,q⟩:=h;rfl
 · obtain ⟨d,r,es,rs,rfl,hd,hrr,nd,dis,le,lr,q⟩:=h;have hu:=P9 hr;refine ⟨_,@g6 _ _ _ (@o6 _ _ _ _ _ _ _ _ PassesOwn.never rfl (@ao1 _ _ _ _ _ _ _ _ B.enum (@c5 _ _ _ _ _ (pv 1) (@c6 _) (by rfl)) (by rfl) (by rfl)) (@X2 _ _ _ _ _ _ rfl (@C4 _ _ _ _ _ (@j6 _ _ (3) _ af4.nd rfl (Or.inl rfl) (by first|exact .inl rfl|exact .inr rfl|assumption)) (@C4 _ _ _ _ _ (@j6 _ _ (4) _ af4.nd rfl (Or.inl rfl) (by first|exact .inl rfl|exact .inr rfl|assumption)) (@S9 _) (by rfl)) (by rfl)) (by rfl) (by rfl)) (@g6 _ _ _ (@an6 _ _ _ _ _ _ _ _ _ hu (pv 0) (pv 4) (@J9 _ _ _ _ _ _ _ C5 (pv 1) (@i7 _ _ _ _ _ _ _ _ C6 (@i7 _ _ _ _ _ _ _ _ E7 (pv 3) (pv 2)) (@x6 _ _ _ _ _ B.len (@c5 _ _ _ _ _ (pv 1) (@c6 _) (by rfl)) (by rfl) (by rfl))) (fun _ _=>rfl)) rfl)) (by intro _;rfl)),?_⟩
   try dsimp only[x9,Cx.nox,Cx.wish]
   have nrd:r≠d:=fun z=>by rw[z,hd] at hrr;cases hrr
   refine ⟨_,rfl,r,rfl,⟨_,h8.of hrr⟩,ah5 (K:=K) (a:=r) (xs:=rs.map V.int) (fun i σ H2=>∃(v3 v4:Option V),σ=[some (.ref d),some (.ref r),some (.int 1),v3,v4]/\H2 d=some (.dK (R3 (es++(K4 rs).take i)))/\j5 d H H2)
     ⟨none,none,rfl,by rw[el4,eb8];exact hd,j5.refl _ _⟩ (fun i σ H2 _ ⟨_,_,_,_,k⟩=>h8.of (k _ _ hrr nrd)) ?_ ?_⟩
   · rintro i y σ H2 tt hi ⟨v3,v4,rfl,h2d,kb⟩ htt;obtain ⟨z,hz,rfl⟩:=O0 hi;have hil:i < rs.length:=(dz2.mp hz).1;have h2r:=kb r _ hrr nrd;have s3:e8 H2 (c9 H2 tt (.tup [.int (i:Int),.int z])):=e8.upd_new htt;have h3t:(c9 H2 tt (.tup [.int (i:Int),.int z])) tt=some (.tup [.int (i:Int),.int z]):=c8;generalize (c9 H2 tt (.tup [.int (i:Int),.int z]))=H3 at s3 h3t ⊢;refine ⟨tt,_,rfl,O3.of h3t,rfl,_,_,rfl,_,_,rfl,rfl,?_⟩;have h3r:=s3 _ _ h2r
     have em:((i:Int)+1)%(rs.length:Int)=(((i+1)%rs.length:Nat):Int):=by rw[ei9];rfl
     have ml:(i+1)%rs.length < rs.length:=eh3 _ (by omega);refine ⟨_,rfl,_,rfl,_,rfl,_,_,rfl,rfl,_,rfl,r,_,rfl,.inl (h8.of h3r),_,_,rfl,rfl,by rw[dz0];omega,r,_,_,_,rfl,rfl,h8.of h3r,(show atI _ _=some (.int (rs.getD ((i+1)%rs.length) 0)) from ?_),?_⟩
     · rw[dz0,em];refine G9 ?_;rw[dz4,dz1 ml,dz5,dz1 ml];rfl
     have lse:(K4 rs).length=rs.length:=by unfold K4;rw[dz0,ec5]
     have hse:(K4 rs)[i]? =some (z,rs.getD ((i+1)%rs.length) 0):=by
       unfold K4;rw[dz4,ed8 hil];show some (rs.getD i 0,rs.getD ((i+1)%rs.length) 0)=_;rw[show rs.getD i 0=z by rw[dz5,hz];rfl]
     have nz:z∉(es++(K4 rs).take i).map (·.1):=by
       rw[dz6];intro hz2
       rcases ea3.mp hz2 with w|w
       · exact dis z (dz8 hz) w
       · obtain ⟨e,he,ee⟩:=ea2.mp w;obtain ⟨j,hj⟩:=ec1.mp he;rw[ep1] at hj
         by_cases c:j < i
         · rw[if_pos c] at hj;unfold K4 at hj;rw[dz4,ed8 (by omega)] at hj;cases hj
           have e2:rs[j]? =some z:=by
             rw[dz1 (by omega)];have ee:rs.getD j 0=z:=ee;rw[dz5,dz1 (by omega)] at ee;exact congrArg some ee
           have:=S0 nd (i:=j) (j:=i) (by omega) hil (by omega);rw[dz5,dz5,e2,hz] at this;exact this rfl
         · rw[if_neg c] at hj;cases hj
     have lk:(R3 (es++(K4 rs).take i)).length<=900:=by
       unfold R3;rw[dz0,dz9,eb2,lse];omega
     refine ⟨_,rfl,_,rfl,d,_,rfl,aq7.k (k:=Sum.inl z) (s3 _ _ h2d) (x8 (by omega)),?_⟩;rw[dh1 nz];refine ⟨_,_,rfl,?_,(kb.trans (s3.but d)).upd_a⟩;rw[c8,l6 hse,<-eb3]
   · rintro σ H2 ⟨v3,v4,rfl,h2d,kb⟩
     have lse:(K4 rs).length=rs.length:=by unfold K4;rw[dz0,ec5]
     rw[dz0,<-lse,ec4] at h2d;exact q H2 h2d kb
end
end My
namespace My
local macro_rules|`(tactic|omega)=>`(tactic|lia)
open PySem L2 Mth
section
theorem ca5 (r:List Int)(b:Nat):(r.drop b++r.take b).Perm r:=eh4.trans (by rw[eg5])
theorem bq8 {rs:List (List Int)}:∀(i:Nat) {y:List Int×List (List Int)},i<=rs.length->y∈L5 rs i->(y.1++y.2.flatten).Perm rs.flatten/\y.2.length+1=rs.length/\∃r∈rs,y.1.Perm r
 |0,y,_,h=>by cases h
 |i+1,y,hi,h=>by
  rcases ea3.mp h with z|z
  · exact bq8 i (by omega) z
  · obtain ⟨b,_,rfl⟩:=ea2.mp z
    have il:i < rs.length:=by omega
    have eg:rs.getD i []=rs[i]:=by rw[dz5,dz1 il];rfl
    refine ⟨?_,?_,rs[i],ec6 _,?_⟩
    · show (((rs.getD i []).drop b++(rs.getD i []).take b)++(rs.take i++rs.drop (i+1)).flatten).Perm rs.flatten
      have e:rs.flatten=(rs.take i).flatten++(rs[i]++(rs.drop (i+1)).flatten):=by
        rw[<-ee1,<-eg6,<-ei4 il,eg5]
      rw[e,eg,eg6];refine ((ca5 _ b).append_right _).trans ?_;rw[<-eb3,<-eb3];exact eh4.append_right _
    · show (rs.take i++rs.drop (i+1)).length+1=_;rw[dz9,eb2,ed2];omega
    · show ((rs.getD i []).drop b++(rs.getD i []).take b).Perm _;rw[eg];exact ca5 _ b
structure dh2 (l:Nat)(rs:List (List Int))(k:Nat)(x:List (List Int)×List (List Int)):Prop where
 perm:(x.1.flatten++x.2.flatten).Perm rs.flatten
 len:x.1.length=k+1
 left:x.2.length+(k+1)=rs.length
 rows:∀r∈x.1,r.length=l
 rows2:∀r∈x.2,r∈rs
theorem L7 {l:Nat}{rs:List (List Int)}(hl:∀r∈rs,r.length=l):∀(k:Nat) {x:List (List Int)×List (List Int)},k < rs.length->x∈C1 rs k->dh2 l rs k x
 |0,x,hk,h=>by
  rw[ea1.mp h]
  cases rs with
  |nil=>simp at hk
  |cons r rs=>
   refine ⟨?_,rfl,rfl,fun r' hr=> ?_,fun r' hr=>ea0 _ hr⟩
   · show ([r].flatten++rs.flatten).Perm (r::rs).flatten;simp
   · rw[ea1.mp hr];exact hl r dz7
 |k+1,x,hk,h=>by
  obtain ⟨x',h',z⟩:=ef4.mp h;obtain ⟨y,hy,rfl⟩:=ea2.mp z;have o:=L7 hl k (by omega) h';obtain ⟨p1,p2,r,hr,p3⟩:=bq8 _ (dz3 _) hy;refine ⟨?_,?_,?_,fun r' hr'=> ?_,fun r' hr'=>o.rows2 r' ((bf3 _ hy).2 r' hr')⟩
  · show ((x'.1++[y.1]).flatten++y.2.flatten).Perm _;rw[eg6,eh1,eb3];exact (p1.append_left _).trans o.perm
  · show (x'.1++[y.1]).length=_;rw[dz9,o.len];rfl
  · show y.2.length+(k+1+1)=_;have:=o.left;omega
  · rcases ea3.mp hr' with w|w
    · exact o.rows r' w
    · rw[ea1.mp w,p3.length_eq];exact hl r (o.rows2 r hr)
theorem bq9 {l:Nat}{rs:List (List Int)}(hl:∀r∈rs,r.length=l):∀i,i<=rs.length->(L5 rs i).length=i*l
 |0,_=>by rw[ee5];rfl
 |i+1,hi=>by
  show (L5 rs i++ae5 rs i (rs.getD i [])).length=_;rw[dz9,bq9 hl i (by omega)];unfold ae5;rw[dz0,ec5,dz5,dz1 (show i < rs.length by omega)];show i*l+(rs[i]).length=_;rw[hl _ (ec6 _),el7,ev3]
theorem aj6 {α β:Type}{f:α->List β}{c:Nat}:∀{xs:List α},(∀x∈xs,(f x).length=c)->(xs.flatMap f).length=xs.length*c
 |[],_=>by rw[eq3,ee5];rfl
 |x::xs,h=>by
  rw[ee2,dz9,h x dz7,aj6 fun y hy=>h y (ea0 _ hy),ee9,el7,ev3,eh2]
theorem au3 {l:Nat}{rs:List (List Int)}(hl:∀r∈rs,r.length=l):∀k,k < rs.length->(C1 rs k).length=r6 rs.length l k
 |0,_=>rfl
 |k+1,hk=>by
  show ((C1 rs k).flatMap nxC).length=r6 rs.length l k*(rs.length - (k+1))*l;rw[aj6 (c:=(rs.length - (k+1))*l) fun x hx=> ?_,au3 hl k (by omega),eg1];have o:=L7 hl k (by omega) hx;unfold nxC;rw[dz0,bq9 (fun r hr=>hl r (o.rows2 r hr)) _ (dz3 _)];have:=o.left;rw[show x.2.length=rs.length - (k+1) by omega]
open Classical in
noncomputable def J5 (l m:Nat)(Rs:List (List Int)):List Int:=if h:∃J,K8 l (m/Rs.length) Rs J then Classical.choose h else []
theorem bf4 {l m k:Nat}{Rs:List (List Int)}{J:List Int}(l0:0 < l)(r0:1<=Rs.length)(em:m=Rs.length*k)(c:ec8 l k=1)(h:K8 l k Rs J):J5 l m Rs=J:=by
 have ek:m/Rs.length=k:=by rw[em];exact eh6 k r0
 have ex:∃J,K8 l (m/Rs.length) Rs J:=⟨J,by rw[ek];exact h⟩;unfold J5;rw[dif_pos ex];exact K8.uniq l0 (by rw[ek];exact c) (Classical.choose_spec ex) (by rw[ek];exact h)
noncomputable def S7 (l m:Nat)(w:List (List (List Int))):List (Int×Int):=w.flatMap fun c=>K4 (J5 l m c)
theorem ca6 (l m:Nat)(w:List (List (List Int)))(c:List (List Int)):S7 l m (w++[c])=S7 l m w++K4 (J5 l m c):=by
 unfold S7;rw[ei5,ee2,ek5,eb8]
def W6 (f:List (List Int)->List (List (List (List Int))))(rs:List (List Int))(d:Nat):List (List (List (List Int))):=if d<=rs.length then (C1 rs (d - 1)).flatMap fun x=>(f x.2).map fun w=>w++[x.1] else []
def G5 (ds:List Nat):Nat->List (List Int)->List (List (List (List Int)))
 |0,_=>[[]]
 |f+1,rs=>if rs.length=0 then [[]] else ds.flatMap (W6 (G5 ds f) rs)
theorem au4 (J:List Int):(K4 J).map (·.1)=J:=by
 unfold K4;rw[ee4]
 refine ed7 fun i=> ?_
 rw[dz4]
 by_cases h:i < J.length
 · rw[ed8 h,dz1 h];show some (J.getD i 0)=_;rw[dz5,dz1 h];rfl
 · rw[ea5 (by rw[ec5];omega),ea5 (by omega)];rfl
def R4 (l m d:Nat):Prop:=1<=d/\ec8 (d*l) m=d
theorem R4.parts {l m d:Nat}(h:R4 l m d)(m1:1<=m):∃k,m=d*k/\ec8 l k=1:=by
 obtain ⟨d1,e⟩:=h
 have dm:d∣m:=by
   have:=em0 (d*l) m;rw[e] at this;exact this
 obtain ⟨k,rfl⟩:=dm;refine ⟨k,rfl,?_⟩;rw[et7] at e
 have:d*ec8 l k=d*1:=by rw[e,ei6]
 exact em1 d1 this
theorem cz4 {l m:Nat}{Rs:List (List Int)}(l0:0 < l)(m1:1<=m)(h:R4 l m Rs.length){J:List Int}{k:Nat}(ek:m=Rs.length*k)(j:K8 l k Rs J):J5 l m Rs=J/\J.Perm Rs.flatten:=by
 obtain ⟨k',e1,e2⟩:=h.parts m1;have:k'=k:=em1 h.1 (by rw[<-e1,<-ek]);subst this;exact ⟨bf4 l0 h.1 ek e2 j,j.perm l0 e2⟩
structure ds6 (l m:Nat)(ds:List Nat)(rs:List (List Int))(w:List (List (List Int))):Prop where
 perm:(w.map en9).flatten.Perm rs.flatten
 right:∀c∈w,c.length∈ds/\∀r∈c,r.length=l
theorem bj5 {l m:Nat}{ds:List Nat}(hd:∀d∈ds,1<=d):∀(f:Nat) {rs:List (List Int)} {w:List (List (List Int))},rs.length<=f->(∀r∈rs,r.length=l)->w∈G5 ds f rs->ds6 l m ds rs w
 |0,rs,w,hf,hl,h=>by
  have e:rs=[]:=eh9.mp (by omega);rw[ea1.mp h,e];exact ⟨List.Perm.refl _,fun c hc=>by cases hc⟩
 |f+1,rs,w,hf,hl,h=>by
  unfold G5 at h
  by_cases c:rs.length=0
  · rw[if_pos c] at h;have e:rs=[]:=eh9.mp c;rw[ea1.mp h,e];exact ⟨List.Perm.refl _,fun c hc=>by cases hc⟩
  · rw[if_neg c] at h;obtain ⟨d,hdm,h⟩:=ef4.mp h;unfold W6 at h
    by_cases c2:d<=rs.length
    · rw[if_pos c2] at h;obtain ⟨x,hx,h⟩:=ef4.mp h;obtain ⟨w',hw',rfl⟩:=ea2.mp h;have d1:=hd d hdm;have o:=L7 hl (d - 1) (by omega) hx;have i:=bj5 (m:=m) hd f (rs:=x.2) (w:=w') (by have:=o.left;omega) (fun r hr=>hl r (o.rows2 r hr)) hw';refine ⟨?_,fun c hc=> ?_⟩
      · rw[dz6,eg6];show ((w'.map en9).flatten++[x.1.flatten].flatten).Perm _;rw[eh1];exact (eh4.trans (i.perm.append_left _)).trans o.perm
      · rcases ea3.mp hc with z|z
        · exact i.right c z
        · rw[ea1.mp z];exact ⟨by rw[o.len,ek7 d1];exact hdm,o.rows⟩
    · rw[if_neg c2] at h;cases h
end
end My
namespace My
local macro_rules|`(tactic|omega)=>`(tactic|lia)
open PySem L2 Mth
section
variable {P:Program} {w:World} {K:PySem.W.Frag} {mg:Str->Option Value} {base:Heap}
def Few (ds:List Nat):Nat->List (List Int)->Prop
 |0,_=>True
 |f+1,rs=>(∀d∈ds,d<=rs.length->(∀k,k < d->(C1 rs k).length<=2000)/\∀x∈C1 rs (d - 1),Few ds f x.2)/\(G5 ds (f+1) rs).length<=2000
def bb4 (l m:Nat)(H:Hp)(u:Addr)(w:List (List (List Int))):Prop:=H u=some (.dK (R3 (S7 l m w)))
def ay6 (f:Nat):Sp:=fun vs H Q _=>∃(l:Addr) (as:List Addr) (rs:List (List Int)) (ra:Addr) (ds:List Nat) (len m:Nat),vs=[.ref l,.ref ra,.int (m:Int)]/\H l=some (.lst (as.map V.ref))/\o3 H as rs/\H ra=some (.lst ((J7 ds).map V.int))/\rs.length<=f/\(∀r∈rs,r.length=len)/\0 < len/\rs.length*len<=40/\rs.flatten.Nodup/\1<=m/\(∀d∈ds,R4 len m d)/\Few ds f rs/\
 ∀(o:Addr) (us:List Addr) (H':Hp),H o=none->e8 H H'->H' o=some (.lst (us.map V.ref))->us.Nodup->(∀u∈us,H u=none)->M6 (bb4 len m H') us (G5 ds f rs)->Q (.ref o) H'
theorem V8 {l:Nat}{rs:List (List Int)}(h:∀r∈rs,r.length=l):rs.flatten.length=rs.length*l:=by
 rw[show rs.flatten=rs.flatMap id by rw[List.flatMap_id]];exact aj6 h
theorem br0 {l m:Nat}{c:List (List Int)}(l0:0 < l)(m1:1<=m)(h:R4 l m c.length):(∀x∈J5 l m c,x∈c.flatten)/\(J5 l m c).length<=c.flatten.length:=by
 unfold J5
 by_cases ex:∃J,K8 l (m/c.length) c J
 · rw[dif_pos ex];obtain ⟨k,e1,e2⟩:=h.parts m1
   have ek:m/c.length=k:=by rw[e1];exact eh6 k h.1
   have pm:=(Classical.choose_spec ex).perm l0 (by rw[ek];exact e2);exact ⟨fun x hx=>pm.mem_iff.mp hx,en8 pm.length_eq⟩
 · rw[dif_neg ex];exact ⟨(fun x hx=>by cases hx),eb4 _⟩
theorem aj7 {l m:Nat}(l0:0 < l)(m1:1<=m):∀(w:List (List (List Int))),(∀c∈w,R4 l m c.length)->(∀x∈(S7 l m w).map (·.1),x∈(w.map en9).flatten)/\(S7 l m w).length<=(w.map en9).flatten.length
 |[],_=>⟨(fun x hx=>by cases hx),dz3 _⟩
 |c::w,h=>by
  obtain ⟨a,b⟩:=aj7 l0 m1 w fun c hc=>h c (ea0 _ hc)
  obtain ⟨a2,b2⟩:=br0 l0 m1 (h c dz7)
  have e:S7 l m (c::w)=K4 (J5 l m c)++S7 l m w:=by unfold S7;rw[ee2]
  rw[e,ed3,ee1,dz6,au4,dz9,dz9];refine ⟨fun x hx=> ?_,?_⟩
  · rcases ea3.mp hx with z|z
    · exact ed9 _ (a2 x z)
    · exact ea9 _ (a x z)
  · have:(K4 (J5 l m c)).length=(J5 l m c).length:=by unfold K4;rw[dz0,ec5]
    omega
theorem bn2 {α β:Type}{f:α->List β}{xs:List α}{i:Nat}{x:α}(h:xs[i]? =some x):((xs.take i).flatMap f).length+(f x).length<=(xs.flatMap f).length:=by
 have jl:=(dz2.mp h).1;have e3:=(dz2.mp h).2
 have ex:xs=xs.take i++x::xs.drop (i+1):=by rw[<-e3,<-ei4 jl,eg5]
 have e4:=congrArg (fun z=>(z.flatMap f).length) ex;simp only[ei5,ee2,dz9] at e4;omega
theorem ch1 {H:Hp}{e l:Addr}(he:H e=none)(hl:(c9 H e (.dK [])) l=none)(len m:Nat):H l=none/\e8 H (c9 (c9 H e (.dK [])) l (.lst [V.ref e]))/\M6 (bb4 len m (c9 (c9 H e (.dK [])) l (.lst [V.ref e]))) [e] [[]]:=by
 have n:l≠e:=fun z=>by rw[z,c8] at hl;cases hl
 have hl0:H l=none:=by rw[g7 n] at hl;exact hl
 refine ⟨hl0,(e8.upd_new he).upd_r hl0,rfl,fun j t x e1 e2=> ?_⟩
 rcases j with _|j
 · cases e1;cases e2;show (c9 (c9 H e (.dK [])) l (.lst [V.ref e])) e=_;rw[g7 n.symm,c8];rfl
 · cases e1
theorem y9:m9 ["rings","right","m","ways","part","chain","left","joined","way"] ["rings","right","m"] (j7 W3):=⟨rfl,rfl,rfl,by decide+kernel,rfl,by decide+kernel,by decide+kernel⟩
theorem bj6 {f:Addr}{fd:FuncData}(F:C7 K "ways_to_join" "ways_to_join" W3 f fd)(B:Bl mg)(c_chains_of:n0 P w K mg base "chains_of" 2 ["rings","part"] au2)(c_join_rings:n0 P w K mg base "join_rings" 1 ["rings","m"] bi8)(c_send_along:n0 P w K mg base "send_along" 1 ["target","ring","steps"] (ck2 bi7 bb3)):n6 P w K mg base E9 3 f fd ["rings","right","m"] (ay6 0):=by
 refine F.ok y9 (fun vs H Q E h=> ?_) (fun cdv A outer s H vs Q E hr h=> ?_)
 · obtain ⟨l,as,rs,ra,ds,len,m,rfl,hl,rows,hra,lf,hlen,len0,l40,nd,m1,rt,few,q⟩:=h;rfl
 · obtain ⟨l,as,rs,ra,ds,len,m,rfl,hl,rows,hra,lf,hlen,len0,l40,nd,m1,rt,few,q⟩:=h;have hr_chains_of:l9 2 _:=hr.mono (by decide);have hr_join_rings:l9 1 _:=hr.mono (by decide);have hr_send_along:l9 1 _:=hr.mono (by decide);refine ⟨_,@c7 _ _ _ _ _ (@B5 _ _ _ _ _ _ _ _ (@j8 _ _ _ _ _ _ _ _ ad0 (@x6 _ _ _ _ _ B.len (@c5 _ _ _ _ _ (pv 0) (@c6 _) (by rfl)) (by rfl) (by rfl)) (@g9 _ _ _ _) (n5 _)) (@g6 _ _ _ (@l8 _ _ _ _ (@o8 _ _ _ _ (@c5 _ _ _ _ _ (@Y3 _ _) (@c6 _) (by rfl))))) (@o4 _)) (@c7 _ _ _ _ _ (@i4 _ _ (3) _ _ _ _ y9.nd rfl (Or.inl rfl) (@o8 _ _ _ _ (@c6 _)) (by rfl) (by first|exact .inl rfl|exact .inr rfl|assumption)) (@c7 _ _ _ _ _ (@o6 _ _ _ _ _ _ _ _ PassesOwn.never rfl (@G8 _ _ _ _ (pv 1)) (@j6 _ _ (4) _ y9.nd rfl (Or.inl rfl) (by first|exact .inl rfl|exact .inr rfl|assumption)) (@g6 _ _ _ (@B5 _ _ _ _ _ _ _ _ (@j8 _ _ _ _ _ _ _ _ ci8 (pv 4) (@x6 _ _ _ _ _ B.len (@c5 _ _ _ _ _ (pv 0) (@c6 _) (by rfl)) (by rfl) (by rfl)) (n5 _)) (@g6 _ _ _ (@o6 _ _ _ _ _ _ _ _ PassesOwn.never rfl (@G8 _ _ _ _ (@i8 _ _ _ _ _ _ _ _ _ _ c_chains_of hr_chains_of (@c5 _ _ _ _ _ (pv 0) (@c5 _ _ _ _ _ (pv 4) (@c6 _) (by rfl)) (by rfl)) (by rfl) (by decide) (by rfl) (by rfl))) (@X2 _ _ _ _ _ _ rfl (@C4 _ _ _ _ _ (@j6 _ _ (5) _ y9.nd rfl (Or.inl rfl) (by first|exact .inl rfl|exact .inr rfl|assumption)) (@C4 _ _ _ _ _ (@j6 _ _ (6) _ y9.nd rfl (Or.inl rfl) (by first|exact .inl rfl|exact .inr rfl|assumption)) (@S9 _) (by rfl)) (by rfl)) (by rfl) (by rfl)) (@c7 _ _ _ _ _ (@i4 _ _ (7) _ _ _ _ y9.nd rfl (Or.inl rfl) (@i8 _ _ _ _ _ _ _ _ _ _ c_join_rings hr_join_rings (@c5 _ _ _ _ _ (pv 5) (@c5 _ _ _ _ _ (pv 2) (@c6 _) (by rfl)) (by rfl)) (by rfl) (by decide) (by rfl) (by rfl)) (by rfl) (by first|exact .inl rfl|exact .inr rfl|assumption)) (@g6 _ _ _ (@o6 _ _ _ _ _ _ _ _ PassesOwn.never rfl (@G8 _ _ _ _ (@cx6 _ _)) (@j6 _ _ (8) _ y9.nd rfl (Or.inl rfl) (by first|exact .inl rfl|exact .inr rfl|assumption)) (@c7 _ _ _ _ _ (@y6 _ _ _ _ (@i8 _ _ _ _ _ _ _ _ _ _ c_send_along hr_send_along (@c5 _ _ _ _ _ (pv 8) (@c5 _ _ _ _ _ (pv 7) (@c5 _ _ _ _ _ (@g9 _ _ _ _) (@c6 _) (by rfl)) (by rfl)) (by rfl)) (by rfl) (by decide) (by rfl) (by rfl)) (by rfl)) (@g6 _ _ _ (@y6 _ _ _ _ (@E4 _ _ _ _ _ _ _ (pv 3) (@c5 _ _ _ _ _ (pv 8) (@c6 _) (by rfl)) (by rfl) (by rfl) (by rfl) (by rfl) (by rfl)) (by rfl)))) (by intro _;rfl)))) (by intro _;rfl))) (@o4 _))) (by intro _;rfl)) (@g6 _ _ _ (@l8 _ _ _ _ (pv 3))))),?_⟩;refine bj0 ?_;intros
   try dsimp only[x9,Cx.nox,Cx.wish]
   refine ⟨_,rfl,l,_,rfl,.inl (h8.of hl),rfl,_,rfl,?_⟩;rw[dz0,rows.1,show rs.length=0 by omega];refine aa0 (fun _=> ?_) (fun h=>absurd (decide_eq_true rfl) h)
   refine fun e he=>⟨(show 1<=sizeLine by decide),fun o ho=> ?_⟩
   obtain ⟨a1,a2,a3⟩:=ch1 he ho len m;exact q o [e] _ a1 a2 c8 (by simp) (fun b hb=>by rw[ea1.mp hb];exact he) a3
theorem i6 {d k:Nat}{f:Addr}{fd:FuncData}(F:C7 K "ways_to_join" "ways_to_join" W3 f fd)(B:Bl mg)(c_chains_of:n0 P w K mg base "chains_of" 2 ["rings","part"] au2)(c_join_rings:n0 P w K mg base "join_rings" 1 ["rings","m"] bi8)(c_ways_to_join:n0 P w K mg base "ways_to_join" (k+3) ["rings","right","m"] (ay6 d))(c_send_along:n0 P w K mg base "send_along" 1 ["target","ring","steps"] (ck2 bi7 bb3)):n6 P w K mg base E9 (k+3+1) f fd ["rings","right","m"] (ay6 (d+1)):=by
 refine F.ok y9 (fun vs H Q E h=> ?_) (fun cdv A outer s H vs Q E hr h=> ?_)
 · obtain ⟨l,as,rs,ra,ds,len,m,rfl,hl,rows,hra,lf,hlen,len0,l40,nd,m1,rt,few,q⟩:=h;rfl
 · obtain ⟨l,as,rs,ra,ds,len,m,rfl,hl,rows,hra,lf,hlen,len0,l40,nd,m1,rt,few,q⟩:=h;have hr_chains_of:l9 2 _:=hr.mono (by omega);have hr_join_rings:l9 1 _:=hr.mono (by omega);have hr_ways_to_join:l9 (k+3) _:=hr.mono (by omega);have hr_send_along:l9 1 _:=hr.mono (by omega);refine ⟨_,@c7 _ _ _ _ _ (@B5 _ _ _ _ _ _ _ _ (@j8 _ _ _ _ _ _ _ _ ad0 (@x6 _ _ _ _ _ B.len (@c5 _ _ _ _ _ (pv 0) (@c6 _) (by rfl)) (by rfl) (by rfl)) (@g9 _ _ _ _) (n5 _)) (@g6 _ _ _ (@l8 _ _ _ _ (@o8 _ _ _ _ (@c5 _ _ _ _ _ (@Y3 _ _) (@c6 _) (by rfl))))) (@o4 _)) (@c7 _ _ _ _ _ (@i4 _ _ (3) _ _ _ _ y9.nd rfl (Or.inl rfl) (@o8 _ _ _ _ (@c6 _)) (by rfl) (by first|exact .inl rfl|exact .inr rfl|assumption)) (@c7 _ _ _ _ _ (@o6 _ _ _ _ _ _ _ _ PassesOwn.never rfl (@G8 _ _ _ _ (pv 1)) (@j6 _ _ (4) _ y9.nd rfl (Or.inl rfl) (by first|exact .inl rfl|exact .inr rfl|assumption)) (@g6 _ _ _ (@B5 _ _ _ _ _ _ _ _ (@j8 _ _ _ _ _ _ _ _ ci8 (pv 4) (@x6 _ _ _ _ _ B.len (@c5 _ _ _ _ _ (pv 0) (@c6 _) (by rfl)) (by rfl) (by rfl)) (n5 _)) (@g6 _ _ _ (@o6 _ _ _ _ _ _ _ _ PassesOwn.never rfl (@G8 _ _ _ _ (@i8 _ _ _ _ _ _ _ _ _ _ c_chains_of hr_chains_of (@c5 _ _ _ _ _ (pv 0) (@c5 _ _ _ _ _ (pv 4) (@c6 _) (by rfl)) (by rfl)) (by rfl) (by decide) (by rfl) (by rfl))) (@X2 _ _ _ _ _ _ rfl (@C4 _ _ _ _ _ (@j6 _ _ (5) _ y9.nd rfl (Or.inl rfl) (by first|exact .inl rfl|exact .inr rfl|assumption)) (@C4 _ _ _ _ _ (@j6 _ _ (6) _ y9.nd rfl (Or.inl rfl) (by first|exact .inl rfl|exact .inr rfl|assumption)) (@S9 _) (by rfl)) (by rfl)) (by rfl) (by rfl)) (@c7 _ _ _ _ _ (@i4 _ _ (7) _ _ _ _ y9.nd rfl (Or.inl rfl) (@i8 _ _ _ _ _ _ _ _ _ _ c_join_rings hr_join_rings (@c5 _ _ _ _ _ (pv 5) (@c5 _ _ _ _ _ (pv 2) (@c6 _) (by rfl)) (by rfl)) (by rfl) (by decide) (by rfl) (by rfl)) (by rfl) (by first|exact .inl rfl|exact .inr rfl|assumption)) (@g6 _ _ _ (@o6 _ _ _ _ _ _ _ _ PassesOwn.never rfl (@G8 _ _ _ _ (@i8 _ _ _ _ _ _ _ _ _ _ c_ways_to_join hr_ways_to_join (@c5 _ _ _ _ _ (pv 6) (@c5 _ _ _ _ _ (pv 1) (@c5 _ _ _ _ _ (pv 2) (@c6 _) (by rfl)) (by rfl)) (by rfl)) (by rfl) (by decide) (by rfl) (by rfl))) (@j6 _ _ (8) _ y9.nd rfl (Or.inl rfl) (by first|exact .inl rfl|exact .inr rfl|assumption)) (@c7 _ _ _ _ _ (@y6 _ _ _ _ (@i8 _ _ _ _ _ _ _ _ _ _ c_send_along hr_send_along (@c5 _ _ _ _ _ (pv 8) (@c5 _ _ _ _ _ (pv 7) (@c5 _ _ _ _ _ (@g9 _ _ _ _) (@c6 _) (by rfl)) (by rfl)) (by rfl)) (by rfl) (by decide) (by rfl) (by rfl)) (by rfl)) (@g6 _ _ _ (@y6 _ _ _ _ (@E4 _ _ _ _ _ _ _ (pv 3) (@c5 _ _ _ _ _ (pv 8) (@c6 _) (by rfl)) (by rfl) (by rfl) (by rfl) (by rfl) (by rfl)) (by rfl)))) (by intro _;rfl)))) (by intro _;rfl))) (@o4 _))) (by intro _;rfl)) (@g6 _ _ _ (@l8 _ _ _ _ (pv 3))))),?_⟩;refine bj0 ?_;intros
   try dsimp only[x9,Cx.nox,Cx.wish]
   refine ⟨_,rfl,l,_,rfl,.inl (h8.of hl),rfl,_,rfl,?_⟩;rw[dz0,rows.1]
   by_cases c0:rs.length=0
   · rw[c0];refine aa0 (fun _=> ?_) (fun h=>absurd (decide_eq_true rfl) h)
     refine fun e he=>⟨(show 1<=sizeLine by decide),fun o ho=> ?_⟩
     obtain ⟨a1,a2,a3⟩:=ch1 he ho len m;refine q o [e] _ a1 a2 c8 (by simp) (fun b hb=>by rw[ea1.mp hb];exact he) ?_;unfold G5;rw[if_pos c0];exact a3
   rw[decide_eq_false (fun z=>c0 (by have:=V.int.inj z;omega))];refine C0 ?_;refine ⟨eb4 _,fun W hW=> ?_⟩;have s1:e8 H (c9 H W (.lst [])):=e8.upd_new hW;have h1W:(c9 H W (.lst [])) W=some (.lst (([]:List Addr).map V.ref)):=c8;generalize (c9 H W (.lst []))=H1 at s1 h1W ⊢;have nlW:l≠W:=g8 hl hW;have nrW:ra≠W:=g8 hra hW
   have ewf:G5 ds (d+1) rs=ds.flatMap (W6 (G5 ds d) rs):=by
     show (if rs.length=0 then _ else _)=_;rw[if_neg c0]
   obtain ⟨few1,few2⟩:=few;rw[ewf] at few2
   have dsv:∀{i:Nat} {y:V},((J7 ds).map V.int)[i]? =some y->∃dd:Nat,ds[i]? =some dd/\y= .int (dd:Int):=fun {i y} h=>by
     unfold J7 at h;rw[dz4,dz4] at h
     cases e:ds[i]? with
     |none=>rw[e] at h;cases h
     |some a=>rw[e] at h;cases h;exact ⟨a,rfl,rfl⟩
   refine ⟨_,rfl,ra,rfl,⟨_,h8.of (s1 _ _ hra)⟩,K1 (K:=K) (a:=ra) (xs:=(J7 ds).map V.int) (fun i σ H2=>∃(us:List Addr) (v4 v5 v6 v7 v8:Option V),σ=[some (.ref l),some (.ref ra),some (.int (m:Int)),some (.ref W),v4,v5,v6,v7,v8]/\H2 W=some (.lst (us.map V.ref))/\us.Nodup/\(∀u∈us,H u=none)/\M6 (bb4 len m H2) us ((ds.take i).flatMap (W6 (G5 ds d) rs))/\e8 H H2)
     ⟨[],none,none,none,none,none,rfl,h1W,ef6,(fun u hu=>by cases hu),M6.nil,s1⟩ (fun i σ H2 _ ⟨_,_,_,_,_,_,_,_,_,_,_,k⟩=>h8.of (k _ _ hra)) ?_ ?_⟩
   · rintro i y σ H2 hi ⟨us0,v4,v5,v6,v7,v8,rfl,h2W,und0,ufr0,atu0,s02⟩;obtain ⟨dd,hdd,rfl⟩:=dsv hi;have ddm:=dz8 hdd;have rdd:=rt dd ddm;refine ⟨_,rfl,_,rfl,l,_,rfl,.inl (h8.of (s02 _ _ hl)),_,_,rfl,rfl,_,rfl,?_⟩;rw[dz0,rows.1];rw[l6 hdd,ei5,ee2,ek5,eb8]
     by_cases cd:dd<=rs.length
     · rw[decide_eq_true (show (dd:Int)<=(rs.length:Int) by omega)]
       have ewp:W6 (G5 ds d) rs dd=(C1 rs (dd - 1)).flatMap fun x=>(G5 ds d x.2).map fun w=>w++[x.1]:=if_pos cd
       have tot:=bn2 (f:=W6 (G5 ds d) rs) hdd;rw[ewp] at tot ⊢;obtain ⟨fewc,fewx⟩:=few1 dd ddm cd;have r40:rs.length<=40:=ea4 (ed5 _ len0) l40
       have row40:∀r∈rs,r.length<=40:=fun r hr=>by
         rw[hlen r hr];exact ea4 (en0 _ (by omega)) l40
       obtain ⟨kk,emk,gk⟩:=rdd.parts m1;refine L9 ⟨_,rfl,_,rfl,l,as,rs,[W],dd,rfl,s02 _ _ hl,fun z=>nlW (ea1.mp z),B6 rows fun b _ u e=>by rw[O8 fun z=>(g8 e hW) (ea1.mp z)];exact s02 _ _ e,fun z hz=>by rw[ea1.mp hz];exact ⟨_,h2W⟩,by omega,r40,row40,rdd.1,by omega,fewc,fun F ts H3 hF s3 h3F atc=> ?_⟩;have nFW:F≠W:=(g8 h2W hF).symm
       refine ⟨F,rfl,⟨_,h8.of h3F⟩,K1 (K:=K) (a:=F) (xs:=ts.map V.ref) (fun j σ H4=>∃(us:List Addr) (v5 v6 v7 v8:Option V),σ=[some (.ref l),some (.ref ra),some (.int (m:Int)),some (.ref W),some (.int (dd:Int)),v5,v6,v7,v8]/\H4 W=some (.lst (us.map V.ref))/\us.Nodup/\(∀u∈us,H u=none)/\M6 (bb4 len m H4) us ((ds.take i).flatMap (W6 (G5 ds d) rs)++((C1 rs (dd - 1)).take j).flatMap fun x=>(G5 ds d x.2).map fun w=>w++[x.1])/\j5 W H3 H4)
         ⟨us0,v5,v6,v7,v8,rfl,s3 _ _ h2W,und0,ufr0,by rw[el4,ek5,eb8];exact atu0.imp fun u w _ h=>s3 _ _ h,j5.refl _ _⟩ (fun j σ H4 _ ⟨_,_,_,_,_,_,_,_,_,_,k⟩=>h8.of (k _ _ h3F nFW)) ?_ ?_⟩
       · rintro j y σ H4 hj ⟨us,v5,v6,v7,v8,rfl,h4W,und,ufr,atu,kb4⟩
         obtain ⟨t,ht,rfl⟩:∃t,ts[j]? =some t/\y=V.ref t:=by
           rw[dz4] at hj
           cases e:ts[j]? with
           |none=>rw[e] at hj;cases hj
           |some a=>rw[e] at hj;exact ⟨a,rfl,(Option.some.inj hj).symm⟩
         obtain ⟨x,hx,cx⟩:=atc.get ht;obtain ⟨c,xl,cs,bs,g1,g2,g3,g4,g5⟩:=(cx.keep (Z0 dz7 kb4)).keep (ca1 _ _);have xm:=dz8 hx;have ok:=L7 hlen (dd - 1) (by have:=rdd.1;omega) xm
         have x1l:x.1.length=dd:=by rw[ok.len];have:=rdd.1;omega
         have fewr:=fewx x xm;have s04:e8 H H4:=(s02.trans s3).kb kb4 hW;refine ⟨t,_,rfl,O3.of g1,rfl,_,_,rfl,_,_,rfl,rfl,?_⟩;refine ⟨_,rfl,_,rfl,c,cs,x.1,len,kk,by rw[x1l,<-emk];rfl,g2,g3,by have:=rdd.1;omega,ok.rows,len0,by rw[x1l];exact ea4 (eg9 _ cd) l40,gk,fun jo J H5 hjo s5 h5J jis=> ?_⟩;obtain ⟨ej,pj⟩:=cz4 len0 m1 (by rw[x1l];exact rdd) (by rw[x1l];exact emk) jis;have xnd:(x.1.flatten++x.2.flatten).Nodup:=ok.perm.nodup_iff.mpr nd;rw[ef7] at xnd
         have rl2:∀r∈x.2,r.length=len:=fun r hr=>hlen r (ok.rows2 r hr)
         have x2l:x.2.length<=d/\x.2.length<=rs.length:=by have:=ok.left;have:=rdd.1;omega
         have x240:x.2.length*len<=40:=ea4 (eg9 _ x2l.2) l40;refine ⟨_,rfl,_,rfl,_,rfl,xl,bs,x.2,ra,ds,len,m,rfl,s5 _ _ g4,B6 g5 fun b _ u e=>s5 _ _ e,s5 _ _ (s04 _ _ hra),x2l.1,rl2,len0,x240,xnd.2.1,m1,rt,fewr,fun o vs H6 ho s6 h6o vnd vfr atv=> ?_⟩;have n5W:=g8 h4W hjo;have h5W:=s5 _ _ h4W;have vno:∀u∈vs,H5 u=none:=vfr
         have jov:jo∉vs:=fun z=>by have:=vno jo z;rw[h5J] at this;cases this
         have Wv:W∉vs:=fun z=>by have:=vno W z;rw[h5W] at this;cases this
         have usv:∀u∈us,u∉vs:=fun u hu z=>by
           obtain ⟨jj,hjj⟩:=ec1.mp hu;obtain ⟨w,_,hw⟩:=atu.get hjj;have e:=vno u z;rw[s5 _ _ hw] at e;cases e
         have ov:o∉vs:=fun z=>by
           obtain ⟨jj,hjj⟩:=ec1.mp z;obtain ⟨w,_,hw⟩:=atv.get hjj;have hw:H6 o=_:=hw;rw[h6o] at hw;cases hw
         have noW:o≠W:=(g8 h5W ho).symm;have jnd:J.Nodup:=pj.nodup_iff.mpr xnd.1
         have jl40:J.length<=40:=by
           rw[pj.length_eq,V8 ok.rows,x1l];exact ea4 (eg9 _ cd) l40
         have tot2:=bn2 (f:=fun x:List (List Int)×List (List Int)=>(G5 ds d x.2).map fun w=>w++[x.1]) hx;rw[dz0] at tot2;have aul:=atu.1;rw[dz9] at aul;have vl:=atv.1
         refine ⟨o,rfl,⟨_,h8.of h6o⟩,K1 (K:=K) (a:=o) (xs:=vs.map V.ref) (fun k σ H7=>∃(v8:Option V),σ=[some (.ref l),some (.ref ra),some (.int (m:Int)),some (.ref W),some (.int (dd:Int)),some (.ref c),some (.ref xl),some (.ref jo),v8]/\H7 W=some (.lst ((us++vs.take k).map V.ref))/\M6 (bb4 len m H7) (us++vs.take k) (((ds.take i).flatMap (W6 (G5 ds d) rs)++((C1 rs (dd - 1)).take j).flatMap fun x=>(G5 ds d x.2).map fun w=>w++[x.1])++((G5 ds d x.2).take k).map fun w=>w++[x.1])/\(∀jj,k<=jj->∀u w,vs[jj]? =some u->(G5 ds d x.2)[jj]? =some w->bb4 len m H7 u w)/\(∀a u,a≠W->a∉vs->H6 a=some u->H7 a=some u))
           ⟨v8,rfl,by rw[el4,eb8];exact s6 _ _ h5W,by rw[el4,el4,em6,eb8,eb8];exact atu.imp fun u w _ h=>s6 _ _ (s5 _ _ h),fun jj _ u w e1 e2=>atv.2 jj u w e1 e2,fun a u _ _ e=>e⟩ (fun k σ H7 _ ⟨_,_,_,_,_,kk⟩=>h8.of (kk _ _ noW ov h6o)) ?_ ?_⟩
         · rintro k y σ H7 hk ⟨v8,rfl,h7W,at7,todo,keep7⟩
           obtain ⟨u,hu,rfl⟩:∃t,vs[k]? =some t/\y=V.ref t:=by
             rw[dz4] at hk
             cases e:vs[k]? with
             |none=>rw[e] at hk;cases hk
             |some a=>rw[e] at hk;exact ⟨a,rfl,(Option.some.inj hk).symm⟩
           obtain ⟨w,hw,_⟩:=atv.get hu;have h7u:H7 u=some (.dK (R3 (S7 len m w))):=todo k (dz3 _) u w hu hw;have um:=dz8 hu
           have nuW:u≠W:=fun z=>Wv (z▸um)
           have h7J:=keep7 jo _ n5W.symm jov (s6 _ _ h5J);have wok:=bj5 (m:=m) (fun dd h=>(rt dd h).1) d x2l.1 rl2 (dz8 hw)
           obtain ⟨es1,es2⟩:=aj7 len0 m1 w fun c hc=>rt _ (wok.right c hc).1
           have es3:(S7 len m w).length<=40:=by
             refine ea4 es2 ?_;rw[wok.perm.length_eq,V8 rl2];exact x240
           refine ⟨_,rfl,_,rfl,.inr ⟨u,jo,S7 len m w,J,rfl,h7u,h7J,jnd,fun z hz hz2=> ?_,by omega,by omega,fun H8 h8u kb8=> ?_⟩⟩
           · exact xnd.2.2 z (pj.mem_iff.mp hz) z (wok.perm.mem_iff.mp (es1 z hz2)) rfl
           have h8W:=kb8 _ _ h7W nuW.symm;have ltk:(vs.take k).length<=vs.length:=List.length_take_le' _ _;refine ⟨_,rfl,.inl ⟨rfl,_,h8.of h8W⟩,_,rfl,W,_,_,rfl,rfl,h8W,eb5 (show _<=2000 by rw[dz0,dz9];omega) (by decide),?_⟩;rw[show (us++vs.take k).map V.ref++[V.ref u]=(us++vs.take (k+1)).map V.ref by rw[l6 hu,<-eb3,dz6 (l₂:=[u])];rfl]
           have un:∀t∈us++vs.take k,t≠u:=fun t ht z=>by
             subst z
             rcases ea3.mp ht with y|y
             · exact usv t y um
             · obtain ⟨jj,hjj⟩:=ec1.mp y;rw[ep1] at hjj
               by_cases c:jj < k
               · rw[if_pos c] at hjj;have a1:=(dz2.mp hjj).1;have a2:=(dz2.mp hu).1;exact eb7.mp (ea7.mp vnd) jj k a1 a2 c (by rw[(dz2.mp hjj).2,(dz2.mp hu).2])
               · rw[if_neg c] at hjj;cases hjj
           refine ⟨_,rfl,c8,?_,fun jj hjj u2 w2 e1 e2=> ?_,fun a v na nv e=> ?_⟩
           · have ea:us++vs.take (k+1)=(us++vs.take k)++[u]:=by rw[l6 hu,eb3]
             have eb:((G5 ds d x.2).take (k+1)).map (fun w=>w++[x.1])=((G5 ds d x.2).take k).map (fun w=>w++[x.1])++[w++[x.1]]:=by rw[l6 hw,dz6];rfl
             rw[ea,eb,<-eb3];refine M6.snoc (at7.imp fun t w2 ht h=> ?_) ?_
             · have h:H7 t=some (.dK (R3 (S7 len m w2))):=h;show c9 H8 W _ t=_;rw[g7 (show t≠W from fun z=>by rw[z,h7W] at h;cases h)];exact kb8 _ _ h (un t ht)
             · show c9 H8 W _ u=_;rw[g7 nuW,h8u,ca6,ej]
           · have h:=todo jj (by omega) u2 w2 e1 e2;have h:H7 u2=some (.dK (R3 (S7 len m w2))):=h;show c9 H8 W _ u2=_;rw[g7 (show u2≠W from fun z=>Wv (z▸dz8 e1))]
             refine kb8 _ _ h fun z=> ?_
             subst z;have a1:=(dz2.mp e1).1;have a2:=(dz2.mp hu).1;exact eb7.mp (ea7.mp vnd) k jj a2 a1 (by omega) (by rw[(dz2.mp e1).2,(dz2.mp hu).2])
           · rw[g7 na]
             exact kb8 _ _ (keep7 a v na nv e) fun z=>nv (z▸um)
         · rintro σ H7 ⟨v8,rfl,h7W,at7,todo,keep7⟩;rw[dz0,ec4] at h7W at7;rw[vl,ec4] at at7;refine ⟨us++vs,_,_,_,v8,rfl,h7W,?_,fun u hu=> ?_,?_,fun a u e na=> ?_⟩
           · rw[ef7];exact ⟨und,vnd,fun a ha b hb e=>usv a ha (e▸hb)⟩
           · rcases ea3.mp hu with z|z
             · exact ufr u z
             · exact (s04.trans s5).free (vno u z)
           · rw[l6 hx,ei5,ee2,ek5,eb8,<-eb3];exact at7
           · have e5:=s5 _ _ (kb4 _ _ e na);exact keep7 a u na (fun z=>by have:=vno a z;rw[e5] at this;cases this) (s6 _ _ e5)
       · rintro σ H4 ⟨us,v5,v6,v7,v8,rfl,h4W,und,ufr,atu,kb4⟩;rw[dz0,atc.1,ec4] at atu;exact ⟨us,_,_,_,_,_,rfl,h4W,und,ufr,atu,(s02.trans s3).kb kb4 hW⟩
     · rw[decide_eq_false (show ¬(dd:Int)<=(rs.length:Int) by omega)];have ewp:W6 (G5 ds d) rs dd=[]:=if_neg cd;rw[ewp,eb8];exact C0 ⟨us0,_,_,_,_,_,rfl,h2W,und0,ufr0,atu0,s02⟩
   · rintro σ H2 ⟨us,v4,v5,v6,v7,v8,rfl,h2W,und,ufr,atu,s02⟩;rw[show ((J7 ds).map V.int).length=ds.length by unfold J7;rw[dz0,dz0],ec4,<-ewf] at atu;exact ⟨_,rfl,q W us H2 hW s02 h2W und ufr atu⟩
end
end My
namespace My
local macro_rules|`(tactic|omega)=>`(tactic|lia)
open PySem L2 Mth PySem.Spec PyProof.Rows
section
variable {P:Program} {w:World} {K:PySem.W.Frag} {mg:Str->Option Value} {base:Heap}
def do2 (td:TE):TI:=fun σ H R=>td σ H fun x H1=>∃d kvs,x= .ref d/\((H1 d=some (.dK kvs)/\∀o,R (Itd d o kvs) (c9 H1 d (.frz o (.dK kvs))))\/∃o,H1 d=some (.frz o (.dK kvs))/\R (Itd d o kvs) H1)
theorem cz5 {X:Cx}{tg l:Expr}{tl:TE}(hl:PE X l tl):PI X tg l (do2 tl):=by
 intro pins s σ H R I h
 refine q0 (hl pins s σ H _ I h) fun v s1 ⟨x,H1,I1,r1,q1⟩=> ?_
 obtain ⟨d,kvs,e,q⟩:=q1;subst e;cases r1
 rcases q with ⟨hH,q⟩|⟨o,hH,q⟩
 · obtain ⟨_,hsm,vs,rel,o,es,ep,ho,hc,hdat,rr⟩:=(show B9 X.prog X.w H1 s1.heap d (.dK kvs) from I1.hok d _ hH);have hat:s1.heap.DictAt (E6 X.prog X.w) d vs ep:=⟨o,es,ho,hc,hdat,rr⟩;have I2:=I1.freeze hH ho;refine wpAny_pyIter_dict hsm hat ?_;have hlen:kvs.length=vs.length:=rel.length;refine ⟨s1.heap.objs.size,[s1.heap.objs.size],_,_,_,rfl,I2.kept (t':=s1.toks) fun b o e=>Heap.get?_push_of_some _ e,ax2 d _ o kvs es ep hdat,⟨_,Heap.get?_push_size _ rfl,rfl,by rw[hlen];rfl⟩,fun b hb=> ?_,q o⟩
   have e:b=s1.heap.objs.size:=by simpa using hb
   subst e;exact I2.fpOk (dz3 _) (I2.hok.fresh (dz3 _))
 · obtain ⟨ho0,_,hsm,vs,rel,o',es,ep,ho,hc,hdat,rr⟩:=(show B9 X.prog X.w H1 s1.heap d (.frz o (.dK kvs)) from I1.hok d _ hH)
   have eo:o'=o:=by rw[ho0] at ho;exact (Option.some.inj ho).symm
   subst eo;have hat:s1.heap.DictAt (E6 X.prog X.w) d vs ep:=⟨o',es,ho,hc,hdat,rr⟩;refine wpAny_pyIter_dict hsm hat ?_;have hlen:kvs.length=vs.length:=rel.length;refine ⟨s1.heap.objs.size,[s1.heap.objs.size],_,_,_,rfl,I1.kept (t':=s1.toks) fun b o e=>Heap.get?_push_of_some _ e,ax2 d _ o' kvs es ep hdat,⟨_,Heap.get?_push_size _ rfl,rfl,by rw[hlen];rfl⟩,fun b hb=> ?_,q⟩
   have e:b=s1.heap.objs.size:=by simpa using hb
   subst e;exact I1.fpOk (dz3 _) (I1.hok.fresh (dz3 _))
def B8 (t:List Int)(es:List (Int×Int)):List Int:=es.foldl (fun t e=>t.set e.1.toNat e.2) t
theorem au5 (es:List (Int×Int)):∀t:List Int,(B8 t es).length=t.length:=by
 induction es with
 |nil=>intro t;rfl
 |cons e es ih=>intro t;show (B8 (t.set e.1.toNat e.2) es).length=_;rw[ih,el9]
theorem cd5 (t:List Int)(es:List (Int×Int))(e:Int×Int):B8 t (es++[e])=(B8 t es).set e.1.toNat e.2:=by
 unfold B8;rw[ep4];rfl
def S3 (laid:List (List Int))(ways:List (List (Int×Int))):List (List Int):=laid.flatMap fun t=>ways.map (B8 t)
def S4 (p:List Int)(B0:List (List (List (Int×Int)))):List (List Int):=B0.foldl S3 [p]
theorem bj7 (p:List Int)(B0:List (List (List (Int×Int))))(c:List (List (Int×Int))):S4 p (B0++[c])=S3 (S4 p B0) c:=by
 unfold S4;rw[ep4];rfl
theorem cz6 {n:Nat}{laid:List (List Int)}{ways:List (List (Int×Int))}(h:∀t∈laid,t.length=n):∀t∈S3 laid ways,t.length=n:=fun t ht=>by
 obtain ⟨t',h',z⟩:=ef4.mp ht;obtain ⟨es,_,rfl⟩:=ea2.mp z;rw[au5];exact h t' h'
theorem br1 (p:List Int)(B0:List (List (List (Int×Int)))):∀t∈S4 p B0,t.length=p.length:=by
 have g:∀(B0:List (List (List (Int×Int)))) (laid:List (List Int)),(∀t∈laid,t.length=p.length)->∀t∈B0.foldl S3 laid,t.length=p.length:=fun B0=>by
   induction B0 with
   |nil=>intro laid h;exact h
   |cons c B0 ih=>intro laid h;exact ih _ (cz6 h)
 exact g B0 [p] fun t ht=>by rw[ea1.mp ht]
def au6 (H:Hp)(u:Addr)(es:List (Int×Int)):Prop:=H u=some (.dK (R3 es))\/∃o,H u=some (.frz o (.dK (R3 es)))
structure Kp (H H':Hp):Prop where
 nd:∀x u,H x=some u->(∀kvs,u≠.dK kvs)->H' x=some u
 tab:∀x es,au6 H x es->au6 H' x es
 fr:∀x,H' x=none->H x=none
theorem Kp.refl (H:Hp):Kp H H:=⟨fun _ _ e _=>e,fun _ _ e=>e,fun _ e=>e⟩
theorem Kp.of {H H':Hp}(s:e8 H H'):Kp H H':=⟨fun x u e _=>s _ _ e,fun x es e=>e.elim (fun e=> .inl (s _ _ e)) fun ⟨o,e⟩=> .inr ⟨o,s _ _ e⟩,fun x e=>s.free e⟩
theorem Kp.trans {H H' H'':Hp}(a:Kp H H')(b:Kp H' H''):Kp H H'':=⟨fun x u e n=>b.nd x u (a.nd x u e n) n,fun x es e=>b.tab x es (a.tab x es e),fun x e=>a.fr x (b.fr x e)⟩
theorem Kp.lst {H H':Hp}(k:Kp H H'){a:Addr}{xs:List V}(e:H a=some (.lst xs)):H' a=some (.lst xs):=k.nd a _ e (fun kvs z=>by cases z)
theorem Kp.rows {H H':Hp}(k:Kp H H'){as:List Addr}{rs:List (List Int)}(h:o3 H as rs):o3 H' as rs:=⟨h.1,fun j a r e1 e2=>k.lst (h.2 j a r e1 e2)⟩
theorem Kp.upd_r {H H':Hp}(k:Kp H H'){x:Addr}{o:HO}(n:H x=none):Kp H (c9 H' x o):=by
 have ne:∀a u,H a=some u->a≠x:=fun a u e z=>by rw[z,n] at e;cases e
 refine ⟨fun a u e h=>by rw[g7 (ne a u e)];exact k.nd a u e h,fun a es e=> ?_,fun a e=> ?_⟩
 · have nx:a≠x:=e.elim (fun e=>ne a _ e) fun ⟨_,e⟩=>ne a _ e
   unfold au6;rw[g7 nx];exact k.tab a es e
 · by_cases z:a=x
   · rw[z];exact n
   · rw[g7 z] at e;exact k.fr a e
theorem Kp.freeze {H:Hp}{u:Addr}{kvs:List (o9×V)}{o:Obj}(e:H u=some (.dK kvs)):Kp H (c9 H u (.frz o (.dK kvs))):=by
 refine ⟨fun a v h n=> ?_,fun a es h=> ?_,fun a h=> ?_⟩
 · rw[g7 fun z=>by rw[z,e] at h;cases h;exact n _ rfl];exact h
 · by_cases z:a=u
   · subst z
     rcases h with h|⟨_,h⟩
     · rw[e] at h;cases h;exact .inr ⟨o,c8⟩
     · rw[e] at h;cases h
   · unfold au6;rw[g7 z];exact h
 · by_cases z:a=u
   · rw[z,c8] at h;cases h
   · rw[g7 z] at h;exact h
theorem ch2:∀{es:List (Int×Int)} {i:Nat} {e:Int×Int},(es.map (·.1)).Nodup->es[i]? =some e->C9 (R3 es) (Sum.inl e.1:o9)=some (.int e.2)
 |[],i,e,_,h=>by cases h
 |x::es,0,e,_,h=>by cases h;exact K6 rfl
 |x::es,i+1,e,nd,h=>by
  rw[ed3,ed6] at nd;have hm:e∈es:=dz8 h;show C9 ((Sum.inl x.1,V.int x.2)::R3 es) _=_;rw[K2]
  · exact ch2 nd.2 h
  · intro z;have z:x.1=e.1:=Sum.inl.inj z;exact nd.1 (by rw[z];exact List.mem_map_of_mem hm)
def cl0:Sp:=fun vs H Q _=>∃(a ch:Addr) (p:List Int) (cs:List Addr) (B0:List (List (List (Int×Int)))),vs=[.ref a,.ref ch]/\H a=some (.lst (p.map V.int))/\p.length<=40/\H ch=some (.lst (cs.map V.ref))/\
 M6 (fun c ways=>∃us,H c=some (.lst (us.map V.ref))/\M6 (au6 H) us ways) cs B0/\(∀ways∈B0,∀es∈ways,(es.map (·.1)).Nodup/\∀e∈es,0<=e.1/\e.1 < (p.length:Int))/\(∀i,(S4 p (B0.take i)).length<=2000)/\
 ∀(o:Addr) (bs:List Addr) (ts:List (List Int)) (H':Hp),H o=none->H' o=some (.lst (bs.map V.ref))->o3 H' bs ts->ts.Perm (S4 p B0)->ts.Pairwise (fun r r'=>HT.ba0 r' r=false)->bs.Nodup->(∀b∈bs,H b=none)->o∉bs->Kp H H'->Q (.ref o) H'
theorem G0:m9 ["p","choices","laid","ways","wider","turn","way","told","thing"] ["p","choices"] (j7 aa3):=⟨rfl,rfl,rfl,by decide+kernel,rfl,by decide+kernel,by decide+kernel⟩
theorem bf5 {f:Addr}{fd:FuncData}(F:C7 K "lay_every_way" "lay_every_way" aa3 f fd)(B:Bl mg):n6 P w K mg base E9 1 f fd ["p","choices"] cl0:=by
 refine F.ok G0 (fun vs H Q E h=> ?_) (fun cdv A outer s H vs Q E hr h=> ?_)
 · obtain ⟨a,ch,p,cs,B0,rfl,ha,lp,hch,atc,keys,few,q⟩:=h;rfl
 · obtain ⟨a,ch,p,cs,B0,rfl,ha,lp,hch,atc,keys,few,q⟩:=h;have hu:=P9 hr;have hu2:_+1+1 < cLine:=eb5 (ej4 (by decide:2<=64) _) hr.units;refine ⟨_,@c7 _ _ _ _ _ (@i4 _ _ (2) _ _ _ _ G0.nd rfl (Or.inl rfl) (@o8 _ _ _ _ (@c5 _ _ _ _ _ (@ad9 _ _ _ _ _ B.list (@c5 _ _ _ _ _ (pv 0) (@c6 _) (by rfl)) (by rfl) (by rfl)) (@c6 _) (by rfl))) (by rfl) (by first|exact .inl rfl|exact .inr rfl|assumption)) (@c7 _ _ _ _ _ (@o6 _ _ _ _ _ _ _ _ PassesOwn.never rfl (@G8 _ _ _ _ (pv 1)) (@j6 _ _ (3) _ G0.nd rfl (Or.inl rfl) (by first|exact .inl rfl|exact .inr rfl|assumption)) (@c7 _ _ _ _ _ (@i4 _ _ (4) _ _ _ _ G0.nd rfl (Or.inl rfl) (@o8 _ _ _ _ (@c6 _)) (by rfl) (by first|exact .inl rfl|exact .inr rfl|assumption)) (@c7 _ _ _ _ _ (@o6 _ _ _ _ _ _ _ _ PassesOwn.never rfl (@G8 _ _ _ _ (pv 2)) (@j6 _ _ (5) _ G0.nd rfl (Or.inl rfl) (by first|exact .inl rfl|exact .inr rfl|assumption)) (@g6 _ _ _ (@o6 _ _ _ _ _ _ _ _ PassesOwn.never rfl (@G8 _ _ _ _ (pv 3)) (@j6 _ _ (6) _ G0.nd rfl (Or.inl rfl) (by first|exact .inl rfl|exact .inr rfl|assumption)) (@c7 _ _ _ _ _ (@i4 _ _ (7) _ _ _ _ G0.nd rfl (Or.inl rfl) (@ad9 _ _ _ _ _ B.list (@c5 _ _ _ _ _ (pv 5) (@c6 _) (by rfl)) (by rfl) (by rfl)) (by rfl) (by first|exact .inl rfl|exact .inr rfl|assumption)) (@c7 _ _ _ _ _ (@o6 _ _ _ _ _ _ _ _ PassesOwn.never rfl (cz5 (pv 6)) (@j6 _ _ (8) _ G0.nd rfl (Or.inl rfl) (by first|exact .inl rfl|exact .inr rfl|assumption)) (@g6 _ _ _ (@an1 _ _ _ _ _ _ (@an5 _ _ _ _ _ _ hu (pv 6) (pv 8) (fun _ _=>rfl)) (@av8 _ _ _ _ _ _ _ (pv 7) (pv 8) ah0 (by intro _;rfl)) (by rfl) (by rfl) (by rfl))) (by intro _;rfl)) (@g6 _ _ _ (@y6 _ _ _ _ (@E4 _ _ _ _ _ _ _ (pv 4) (@c5 _ _ _ _ _ (pv 7) (@c6 _) (by rfl)) (by rfl) (by rfl) (by rfl) (by rfl) (by rfl)) (by rfl))))) (by intro _;rfl))) (by intro _;rfl)) (@g6 _ _ _ (@i4 _ _ (2) _ _ _ _ G0.nd rfl (Or.inl rfl) (pv 4) (by rfl) (by first|exact .inl rfl|exact .inr rfl|assumption))))) (by intro _;rfl)) (@g6 _ _ _ (@l8 _ _ _ _ (cd2 hu2 B.sorted (@c5 _ _ _ _ _ (pv 2) (@c6 _) (by rfl)))))),?_⟩
   try dsimp only[x9,Cx.nox,Cx.wish]
   refine ⟨_,rfl,a,_,rfl,.inl (h8.of ha),fun e0 he0=> ?_⟩;have s1:e8 H (c9 H e0 (.lst (p.map V.int))):=e8.upd_new he0;have h1e:(c9 H e0 (.lst (p.map V.int))) e0=some (.lst (p.map V.int)):=c8;generalize (c9 H e0 (.lst (p.map V.int)))=H1 at s1 h1e ⊢;refine ⟨(show 1<=sizeLine by decide),fun F0 hF0=> ?_⟩;have s2:e8 H1 (c9 H1 F0 (.lst [V.ref e0])):=e8.upd_new hF0;have h2F:(c9 H1 F0 (.lst [V.ref e0])) F0=some (.lst (([e0]:List Addr).map V.ref)):=c8;generalize (c9 H1 F0 (.lst [V.ref e0]))=H2 at s2 h2F ⊢;have s02:=s1.trans s2
   refine ⟨_,rfl,ch,rfl,⟨_,h8.of (s02 _ _ hch)⟩,K1 (K:=K) (a:=ch) (xs:=cs.map V.ref) (fun i σ H3=>∃(F:Addr) (ts:List Addr) (v3 v4 v5 v6 v7 v8:Option V),σ=[some (.ref a),some (.ref ch),some (.ref F),v3,v4,v5,v6,v7,v8]/\H3 F=some (.lst (ts.map V.ref))/\o3 H3 ts (S4 p (B0.take i))/\ts.Nodup/\(∀t∈ts,H t=none)/\Kp H H3)
     ⟨F0,[e0],none,none,none,none,none,none,rfl,h2F,⟨rfl,fun j b r e1 e2=>by
       rcases j with _|j
       · cases e1;cases e2;exact s2 _ _ h1e
       · cases e1⟩,by simp,fun t ht=>by rw[ea1.mp ht];exact he0,Kp.of s02⟩ (fun i σ H3 _ ⟨_,_,_,_,_,_,_,_,_,_,_,_,_,k⟩=>h8.of (k.lst hch)) ?_ ?_⟩
   · rintro i y σ H3 hi ⟨F,ts,v3,v4,v5,v6,v7,v8,rfl,h3F,rows,tnd,tfr,k3⟩
     obtain ⟨c,hc,rfl⟩:∃c,cs[i]? =some c/\y=V.ref c:=by
       rw[dz4] at hi
       cases e:cs[i]? with
       |none=>rw[e] at hi;cases hi
       |some a=>rw[e] at hi;exact ⟨a,rfl,(Option.some.inj hi).symm⟩
     obtain ⟨ways,hw,us,hcu,atu⟩:=atc.get hc;have fewi:=few (i+1);rw[l6 hw,bj7] at fewi ⊢;have lens:=br1 p (B0.take i);generalize S4 p (B0.take i)=laid at rows fewi lens ⊢;have kw:=keys ways (dz8 hw);refine ⟨eb4 _,fun W hW=> ?_⟩;have hW0:H W=none:=k3.fr W hW;have s4:e8 H3 (c9 H3 W (.lst [])):=e8.upd_new hW;have h4W:(c9 H3 W (.lst [])) W=some (.lst (([]:List Addr).map V.ref)):=c8;generalize (c9 H3 W (.lst []))=H4 at s4 h4W ⊢
     refine ⟨_,rfl,F,rfl,⟨_,h8.of (s4 _ _ h3F)⟩,K1 (K:=K) (a:=F) (xs:=ts.map V.ref) (fun j σ H5=>∃(bs:List Addr) (v5 v6 v7 v8:Option V),σ=[some (.ref a),some (.ref ch),some (.ref F),some (.ref c),some (.ref W),v5,v6,v7,v8]/\H5 W=some (.lst (bs.map V.ref))/\o3 H5 bs (S3 (laid.take j) ways)/\bs.Nodup/\(∀b∈bs,H3 b=none)/\W∉bs/\Kp H3 H5)
       ⟨[],v5,v6,v7,v8,rfl,h4W,⟨rfl,fun j b r h=>by cases h⟩,ef6,(fun b hb=>by cases hb),(fun z=>by cases z),Kp.of s4⟩ (fun j σ H5 _ ⟨_,_,_,_,_,_,_,_,_,_,_,k⟩=>h8.of (k.lst h3F)) ?_ ?_⟩
     · rintro j y σ H5 hj ⟨bs0,v5,v6,v7,v8,rfl,h5W,rowsB0,bnd0,bfr0,Wb0,k5⟩
       obtain ⟨t,ht,rfl⟩:∃t,ts[j]? =some t/\y=V.ref t:=by
         rw[dz4] at hj
         cases e:ts[j]? with
         |none=>rw[e] at hj;cases hj
         |some a=>rw[e] at hj;exact ⟨a,rfl,(Option.some.inj hj).symm⟩
       obtain ⟨row,hrow⟩:∃r,laid[j]? =some r:=⟨_,dz1 (by rw[<-rows.1];exact (dz2.mp ht).1)⟩;have h3t:=rows.2 j t row ht hrow;have lrow:=lens row (dz8 hrow);have tot:=bn2 (f:=fun t=>ways.map (B8 t)) hrow;rw[dz0] at tot;have h5c:=(k3.trans k5).lst hcu
       refine ⟨_,rfl,c,rfl,⟨_,h8.of h5c⟩,K1 (K:=K) (a:=c) (xs:=us.map V.ref) (fun k σ H6=>∃(bs:List Addr) (v6 v7 v8:Option V),σ=[some (.ref a),some (.ref ch),some (.ref F),some (.ref c),some (.ref W),some (.ref t),v6,v7,v8]/\H6 W=some (.lst (bs.map V.ref))/\o3 H6 bs (S3 (laid.take j) ways++(ways.take k).map (B8 row))/\bs.Nodup/\(∀b∈bs,H3 b=none)/\W∉bs/\Kp H3 H6)
         ⟨bs0,v6,v7,v8,rfl,h5W,by rw[el4,em6,eb8];exact rowsB0,bnd0,bfr0,Wb0,k5⟩ (fun k σ H6 _ ⟨_,_,_,_,_,_,_,_,_,_,kk⟩=>h8.of ((k3.trans kk).lst hcu)) ?_ ?_⟩
       · rintro k y σ H6 hk ⟨bs,v6,v7,v8,rfl,h6W,rowsB,bnd,bfr,Wb,k6⟩
         obtain ⟨u,hu,rfl⟩:∃t,us[k]? =some t/\y=V.ref t:=by
           rw[dz4] at hk
           cases e:us[k]? with
           |none=>rw[e] at hk;cases hk
           |some a=>rw[e] at hk;exact ⟨a,rfl,(Option.some.inj hk).symm⟩
         obtain ⟨es,hes,tu⟩:=atu.get hu;obtain ⟨knd,kbd⟩:=kw es (dz8 hes);refine ⟨_,rfl,t,_,rfl,.inl (h8.of (k6.lst h3t)),fun to hto=> ?_⟩;have s7:e8 H6 (c9 H6 to (.lst (row.map V.int))):=e8.upd_new hto;have h7t:(c9 H6 to (.lst (row.map V.int))) to=some (.lst (row.map V.int)):=c8;generalize (c9 H6 to (.lst (row.map V.int)))=H7 at s7 h7t ⊢;have k67:Kp H6 H7:=Kp.of s7;have tu7:au6 H7 u es:=k67.tab u es (k6.tab u es (k3.tab u es tu));refine ⟨_,rfl,u,R3 es,rfl,?_⟩;refine tu7.elim (fun h=> .inl ⟨h,fun o=> ?_⟩) (fun ⟨o,h⟩=> .inr ⟨o,h,?_⟩)
         all_goals
           first
             |(have h8u:(c9 H7 u (.frz o (.dK (R3 es)))) u=some (.frz o (.dK (R3 es))):=c8
               have k68:=k67.trans (Kp.freeze (o:=o) h);have h8t:=(Kp.freeze (o:=o) h).lst h7t
               generalize (c9 H7 u (.frz o (.dK (R3 es))))=H8 at h8u k68 h8t ⊢)
             |(have h8u:=h
               have k68:=k67;have h8t:=h7t
               generalize H7=H8 at h8u k68 h8t ⊢)
           have nut:u≠to:=fun z=>by rw[z,h8t] at h8u;cases h8u
           refine ar6 (fun q σ H9=>∃(v8:Option V),σ=[some (.ref a),some (.ref ch),some (.ref F),some (.ref c),some (.ref W),some (.ref t),some (.ref u),some (.ref to),v8]/\H9 to=some (.lst ((B8 row (es.take q)).map V.int))/\H9 u=some (.frz o (.dK (R3 es)))/\Kp H6 H9)
             ⟨v8,rfl,h8t,h8u,k68⟩ (fun q σ H9 _ ⟨_,_,_,e,_⟩=>e) ?_ ?_
           · rintro q kk vv σ H9 hq ⟨v8,rfl,h9t,h9u,k9⟩;unfold R3 at hq;rw[dz4] at hq
             cases hE:es[q]? with
             |none=>rw[hE] at hq;cases hq
             |some e=>
              rw[hE] at hq;cases hq;have eb:=kbd e (dz8 hE);refine ⟨_,rfl,_,rfl,u,.int e.2,rfl,.inl ⟨R3 es,Sum.inl e.1,.inr ⟨o,h9u⟩,rfl,(ch2 knd hE).symm⟩,?_⟩;refine ⟨_,rfl,_,rfl,to,_,_,e.1.toNat,rfl,rfl,h9t,?_,?_⟩
              · unfold ixN;rw[dz0,au5,if_pos eb.1,if_pos (by omega)]
              · refine ⟨_,rfl,?_,by rw[g7 nut];exact h9u,k9.upd_r hto⟩;rw[c8,l6 hE,cd5,eq6]
           · rintro σ H9 ⟨v8,rfl,h9t,h9u,k9⟩;rw[show (R3 es).length=es.length by unfold R3;rw[dz0],ec4] at h9t;have h9W:=k9.lst h6W
             have lb:bs.length<=2000:=by
               have:=rowsB.1;rw[dz9,dz0,eb2] at this;unfold S3 at this fewi;omega
             refine ⟨_,rfl,.inl ⟨rfl,_,h8.of h9W⟩,_,rfl,W,_,_,rfl,rfl,h9W,eb5 (show _<=2000 by rw[dz0];omega) (by decide),?_⟩;have nWt:W≠to:=g8 h6W hto;have k9':Kp H3 (c9 H9 W (.lst (bs.map V.ref++[V.ref to]))):=(k6.trans k9).upd_r hW
             have r9:o3 (c9 H9 W (.lst (bs.map V.ref++[V.ref to]))) (bs++[to]) ((S3 (laid.take j) ways++(ways.take k).map (B8 row))++[B8 row es]):=by
               refine R9 (B6 (k9.rows rowsB) fun b hb v e=> ?_) (by rw[g7 nWt.symm];exact h9t);rw[g7 (show b≠W from fun z=>Wb (z▸hb))];exact e
             refine ⟨bs++[to],_,_,_,rfl,by rw[c8,dz6];rfl,?_,?_,fun b hb=> ?_,fun z=> ?_,k9'⟩
             · have eb:(ways.take (k+1)).map (B8 row)=(ways.take k).map (B8 row)++[B8 row es]:=by rw[l6 hes,dz6];rfl
               rw[eb,<-eb3];exact r9
             · rw[ef7];refine ⟨bnd,by simp,fun x hx z hz e=> ?_⟩;rw[ea1.mp hz] at e;obtain ⟨r,hr⟩:=Y9 rowsB hx;rw[e,hto] at hr;cases hr
             · rcases ea3.mp hb with z|z
               · exact bfr b z
               · rw[ea1.mp z];exact k6.fr to hto
             · rcases ea3.mp z with z|z
               · exact Wb z
               · exact nWt (ea1.mp z)
       · rintro σ H6 ⟨bs,v6,v7,v8,rfl,h6W,rowsB,bnd,bfr,Wb,k6⟩;refine ⟨bs,_,v6,v7,v8,rfl,h6W,?_,bnd,bfr,Wb,k6⟩;rw[dz0,atu.1,ec4] at rowsB
         have e:S3 (laid.take (j+1)) ways=S3 (laid.take j) ways++ways.map (B8 row):=by
           unfold S3;rw[l6 hrow,ei5,ee2,ek5,eb8]
         rw[e];exact rowsB
     · rintro σ H5 ⟨bs,v5,v6,v7,v8,rfl,h5W,rowsB,bnd,bfr,Wb,k5⟩;rw[dz0,rows.1,ec4] at rowsB;exact ⟨_,rfl,W,bs,_,_,_,_,_,_,rfl,h5W,rowsB,bnd,fun b hb=>k3.fr b (bfr b hb),k3.trans k5⟩
   · rintro σ H3 ⟨F,ts,v3,v4,v5,v6,v7,v8,rfl,h3F,rows,tnd,tfr,k3⟩;rw[dz0,atc.1,ec4] at rows;refine ⟨_,rfl,F,ts,_,rfl,h8.of h3F,rows,fun bs rs o pb pr rowsB srt ho=> ?_⟩;have s4:e8 H3 (c9 H3 o (.lst (bs.map V.ref))):=e8.upd_new ho;refine q o bs rs _ (k3.fr o ho) c8 (B6 rowsB fun b _ u e=>s4 _ _ e) pr srt (pb.nodup_iff.mpr tnd) (fun b hb=>tfr b (pb.mem_iff.mp hb)) (fun z=> ?_) (k3.trans (Kp.of s4));obtain ⟨r,hr⟩:=Y9 rowsB z;rw[ho] at hr;cases hr
end
end My
namespace My
local macro_rules|`(tactic|omega)=>`(tactic|lia)
open PySem L2 Mth
section
theorem br2 {β:Type}(g:Nat->List β):∀ds:List Nat,(ds.flatMap g).length=N0 ds fun d=>(g d).length
 |[]=>rfl
 |d::ds=>by rw[ee2,dz9,br2 g ds,N3]
theorem bn3 {f:Nat->Nat}:∀{ds:List Nat} {d:Nat},d∈ds->f d<=N0 ds f
 |x::ds,d,h=>by
  rw[N3]
  rcases ea8.mp h with rfl|h
  · omega
  · have:=bn3 (f:=f) h;omega
theorem br3 {f:Nat->Nat}:∀{ds:List Nat},N0 ds f≠0->∃d∈ds,f d≠0
 |[],h=>absurd rfl h
 |x::ds,h=>by
  rw[N3] at h
  by_cases c:f x=0
  · obtain ⟨d,hd,e⟩:=br3 (f:=f) (ds:=ds) (by omega);exact ⟨d,ea0 _ hd,e⟩
  · exact ⟨x,dz7,c⟩
theorem am5 {n l:Nat}(l1:1<=l):∀k,k < n->1<=r6 n l k
 |0,_=>dz3 _
 |k+1,h=>by
  show 1<=r6 n l k*(n - (k+1))*l;exact eg7 (eg7 (am5 l1 k (by omega)) (by omega)) l1
theorem ay7 {n l:Nat}(l1:1<=l)(k:Nat):∀j,k+j < n->r6 n l k<=r6 n l (k+j)
 |0,_=>dz3 _
 |j+1,h=>by
  refine ea4 (ay7 l1 k j (by omega)) ?_;show r6 n l (k+j)<=r6 n l (k+j)*(n - (k+j+1))*l;rw[eg1];exact ed5 _ (eg7 (by omega) l1)
theorem bf6 {l:Nat}{ds:List Nat}(hd:∀d∈ds,1<=d):∀(f:Nat) {rs:List (List Int)},rs.length<=f->(∀r∈rs,r.length=l)->(G5 ds f rs).length=jf l ds rs.length
 |0,rs,hf,_=>by rw[show rs.length=0 by omega];rfl
 |f+1,rs,hf,hl=>by
  show (if rs.length=0 then [[]] else ds.flatMap (W6 (G5 ds f) rs)).length=_
  by_cases c:rs.length=0
  · rw[if_pos c,c];rfl
  · rw[if_neg c,br2,(au1 (l:=l) hd).2 rs.length (by omega)]
    refine W5 fun d hdm=> ?_
    have d1:=hd d hdm;unfold W6
    by_cases c2:d<=rs.length
    · rw[if_pos c2,if_pos c2,aj6 (c:=jf l ds (rs.length - d)) fun x hx=> ?_,au3 hl (d - 1) (by omega)];have o:=L7 hl (d - 1) (by omega) hx;rw[dz0,bf6 hd f (by have:=o.left;omega) fun r hr=>hl r (o.rows2 r hr)]
      congr 1
      have:=o.left;omega
    · rw[if_neg c2,if_neg c2];rfl
structure cl1 (ds:List Nat)(N d0:Nat):Prop where
 pos:1<=d0
 one:∀d∈ds,1<=d
 all:∀d∈ds,d0∣d
 in_:d0<=N->d0∈ds
theorem ct3 {l N d0:Nat}{ds:List Nat}(b:cl1 ds N d0)(l1:1<=l):∀q,d0*q<=N->1<=jf l ds (d0*q)
 |0,_=>dz3 _
 |q+1,h=>by
  have p:=b.pos;have e:d0*(q+1)=d0*q+d0:=eu1 _ _;rw[(au1 (l:=l) b.one).2 (d0*(q+1)) (by omega)];refine ea4 ?_ (bn3 (b.in_ (by omega)));rw[if_pos (by omega),show d0*(q+1) - d0=d0*q by omega];exact eg7 (am5 l1 _ (by omega)) (ct3 b l1 q (by omega))
theorem ct4 {l N d0:Nat}{ds:List Nat}(b:cl1 ds N d0):∀(g n:Nat),n<=g->jf l ds n≠0->d0∣n
 |0,n,h,_=>by rw[show n=0 by omega];exact Nat.dvd_zero _
 |g+1,n,h,z=>by
  by_cases c:n=0
  · rw[c];exact Nat.dvd_zero _
  · rw[(au1 (l:=l) b.one).2 n (by omega)] at z;obtain ⟨d,hd,e⟩:=br3 z;have d1:=b.one d hd
    by_cases c2:d<=n
    · rw[if_pos c2] at e;have:=ct4 b g (n - d) (by omega) (fun y=>e (by rw[y,eh5]));have e2:=Nat.dvd_add this (b.all d hd);rw[ek7 c2] at e2;exact e2
    · rw[if_neg c2] at e;exact absurd rfl e
theorem ct5 {l N d0:Nat}{ds:List Nat}(b:cl1 ds N d0)(l1:1<=l):∀(f:Nat) {rs:List (List Int)},rs.length<=f->rs.length<=N->(∀r∈rs,r.length=l)->d0∣rs.length->jf l ds rs.length<=2000->Few ds f rs
 |0,rs,_,_,_,_,_=>trivial
 |f+1,rs,hf,hN,hl,dv,le=>by
  refine ⟨fun d hd hdn=> ?_,by rw[bf6 b.one (f+1) hf hl];exact le⟩;have d1:=b.one d hd;obtain ⟨q,hq⟩:=Nat.dvd_sub dv (b.all d hd)
  have jp:1<=jf l ds (rs.length - d):=by rw[hq];exact ct3 b l1 q (by omega)
  have t1:r6 rs.length l (d - 1)*jf l ds (rs.length - d)<=jf l ds rs.length:=by
    rw[(au1 (l:=l) b.one).2 rs.length (by omega)];have:=bn3 (f:=fun d=>if d<=rs.length then r6 rs.length l (d - 1)*jf l ds (rs.length - d) else 0) hd;rw[if_pos hdn] at this;exact this
  have t2:r6 rs.length l (d - 1)<=jf l ds rs.length:=ea4 (ed5 _ jp) t1;have t3:jf l ds (rs.length - d)<=jf l ds rs.length:=ea4 (en0 _ (am5 l1 (d - 1) (by omega))) t1;refine ⟨fun k hk=> ?_,fun x hx=> ?_⟩
  · rw[au3 hl k (by omega)];have:=ay7 l1 k (d - 1 - k) (n:=rs.length) (by omega);rw[show k+(d - 1 - k)=d - 1 by omega] at this;omega
  · have o:=L7 hl (d - 1) (by omega) hx
    have e:x.2.length=rs.length - d:=by have:=o.left;omega
    exact ct5 b l1 f (by omega) (by omega) (fun r hr=>hl r (o.rows2 r hr)) (by rw[e];exact Nat.dvd_sub dv (b.all d hd)) (by rw[e];omega)
end
end My
namespace My
local macro_rules|`(tactic|omega)=>`(tactic|lia)
open PySem L2 Mth
section
variable {P:Program} {w:World} {K:PySem.W.Frag} {mg:Str->Option Value} {base:Heap}
theorem db7 {l m:Nat}(hm:0 < m):∀(n d:Nat),al7 l m d->m - d<=n->∃d,bx0 l m d
 |0,d,u,h=>by
  by_cases z:ec8 l (m/d)=1
  · exact ⟨d,u.done z⟩
  · have:=u.more hm z;omega
 |n+1,d,u,h=>by
  by_cases z:ec8 l (m/d)=1
  · exact ⟨d,u.done z⟩
  · have:=u.more hm z;exact db7 hm n _ (u.step hm) (by omega)
theorem dh3 {l m:Nat}(hm:0 < m):∃d,bx0 l m d:=db7 hm (m - 1) 1 (.start l m) (dz3 _)
theorem V9 {l m n d:Nat}(h:d∈A0 l m n):R4 l m d:=by
 refine ⟨(J8 h).1,?_⟩;unfold A0 at h;exact of_decide_eq_true (ef2.mp h).2
theorem bb5 {l m n:Nat}(m1:1<=m):∃d0,cl1 (A0 l m n) n d0:=by
 obtain ⟨d0,h⟩:=dh3 (l:=l) m1;have p:=h.pos m1;refine ⟨d0,p,fun d hd=>(J8 hd).1,fun d hd=> ?_,fun hn=> ?_⟩
 · have r:=V9 hd;obtain ⟨a,b⟩:=(bq1 r.1).mp r.2;exact h.least d a b
 · unfold A0;refine ef2.mpr ⟨ea2.mpr ⟨d0 - 1,ed1.mpr (by omega),by omega⟩,decide_eq_true ((bq1 p).mpr ⟨h.parts,h.rest⟩)⟩
theorem ca7 {l m:Nat}(l0:0 < l)(m1:1<=m):∀(w:List (List (List Int))),(∀c∈w,R4 l m c.length)->(w.map en9).flatten.Nodup->((S7 l m w).map (·.1)).Nodup
 |[],_,_=>ef6
 |c::w,h,nd=>by
  rw[ed3,ee1,ef7] at nd;have i:=ca7 l0 m1 w (fun c hc=>h c (ea0 _ hc)) nd.2.1
  have e:S7 l m (c::w)=K4 (J5 l m c)++S7 l m w:=by unfold S7;rw[ee2]
  rw[e,dz6,au4,ef7];refine ⟨?_,i,fun x hx y hy z=> ?_⟩
  · unfold J5
    by_cases ex:∃J,K8 l (m/c.length) c J
    · rw[dif_pos ex];obtain ⟨k,e1,e2⟩:=(h c dz7).parts m1
      have ek:m/c.length=k:=by rw[e1];exact eh6 k (h c dz7).1
      exact ((Classical.choose_spec ex).perm l0 (by rw[ek];exact e2)).nodup_iff.mpr nd.1
    · rw[dif_neg ex];exact ef6
  · exact nd.2.2 x ((br0 l0 m1 (h c dz7)).1 x hx) y ((aj7 l0 m1 w fun c hc=>h c (ea0 _ hc)).1 y hy) z
noncomputable def chF (rs:List (List Int))(m l:Nat):List (List (Int×Int)):=(G5 (A0 l m (w6 rs l)) 40 (K9 rs l)).map (S7 l m)
theorem M8 {rs:List (List Int)}{l:Nat}{r:List Int}(h:r∈K9 rs l):r∈rs/\r.length=l:=by
 unfold K9 at h;obtain ⟨a,b⟩:=ef2.mp h;exact ⟨a,of_decide_eq_true b⟩
theorem ay8 (f:List Int->Bool):∀rs:List (List Int),((rs.filter f).flatten).Sublist rs.flatten
 |[]=>List.Sublist.refl _
 |r::rs=>by
  by_cases c:f r=true
  · rw[eh7 c,ee1,ee1];exact (ay8 f rs).append_left r
  · rw[eh8 c,ee1];exact (ay8 f rs).trans (List.sublist_append_right _ _)
theorem U1 (rs:List (List Int))(l:Nat):(K9 rs l).flatten.Sublist rs.flatten:=ay8 _ rs
theorem rsb {p:List Int}(tp:y7 p){i:Nat}{rs:List (List Int)}(up:I0 p i rs):∀r∈rs,1<=r.length/\r.length<=p.length:=fun r hr=>by
 obtain ⟨y,L,hy,pr,er,_⟩:=up.ring r hr
 have b:=N9 tp hy (m:=L) fun i i0 i1=>pr.least i i0 i1
 have:=pr.pos;rw[er,o7];omega
theorem ch3 {rs:List (List Int)}{m l:Nat}(h:(K9 rs l).length<=40):(chF rs m l).length=E2 l m (w6 rs l):=by
 unfold chF;rw[dz0,bf6 (l:=l) (fun d hd=>(J8 hd).1) 40 h fun r hr=>(M8 hr).2,ba5];rfl
theorem cz7 (laid:List (List Int))(c:List (List (Int×Int))):(S3 laid c).length=laid.length*c.length:=by
 unfold S3
 exact aj6 fun t _=>by rw[dz0]
theorem ak8 (p:List Int)(f:Nat->List (List (Int×Int)))(g:Nat->Nat):∀n (ks:List Nat),ks.length<=n->(∀k∈ks,(f k).length=g k)->(S4 p (ks.map f)).length=y8 g ks
 |0,ks,h,_=>by
  obtain rfl:ks=[]:=eh9.mp (by omega);rfl
 |n+1,ks,h,hf=>by
  by_cases c:ks=[]
  · rw[c];rfl
  · have e:=(en4 c).symm;have hx:ks.getLast c∈ks:=List.getLast_mem c;generalize ks.getLast c=x at e hx
    have hd:∀k∈ks.dropLast,k∈ks:=fun k hk=>by rw[e];exact ed9 _ hk
    have hl:ks.dropLast.length<=n:=by rw[eo1];omega
    generalize ks.dropLast=ks' at e hd hl;rw[e,dz6,show [x].map f=[f x] from rfl,bj7,cz7,ar7,ak8 p f g n ks' hl (fun k hk=>hf k (hd k hk)),hf x hx]
theorem ca8 {g:Nat->Nat}:∀{ks:List Nat},y8 g ks≠0->∀k∈ks,1<=g k
 |x::ks,h,k,hk=>by
  have h:g x*y8 g ks≠0:=h
  have a:g x≠0:=fun z=>h (by rw[z,ee5])
  have b:y8 g ks≠0:=fun z=>h (by rw[z,eh5])
  rcases ea8.mp hk with rfl|hk
  · omega
  · exact ca8 b k hk
theorem bf7 {g:Nat->Nat}:∀{ks:List Nat},(∀k∈ks,1<=g k)->1<=y8 g ks
 |[],_=>dz3 _
 |x::ks,h=>eg7 (h x dz7) (bf7 fun k hk=>h k (ea0 _ hk))
theorem dh4 {g:Nat->Nat}{ks:List Nat}(h:∀k∈ks,1<=g k){k:Nat}(hk:k∈ks):g k<=y8 g ks:=by
 induction ks with
 |nil=>cases hk
 |cons x ks ih=>
  show g k<=g x*y8 g ks
  rcases ea8.mp hk with rfl|hk
  · exact ed5 _ (bf7 fun k hk=>h k (ea0 _ hk))
  · exact ea4 (ih (fun k hk=>h k (ea0 _ hk)) hk) (en0 _ (h x dz7))
theorem ct7 {g:Nat->Nat}{ks:List Nat}(h:∀k∈ks,1<=g k)(i:Nat):y8 g (ks.take i)<=y8 g ks:=by
 have e:=ax3 g (ks.take i) (ks.drop i);rw[eg5] at e;rw[e];exact ed5 _ (bf7 fun k hk=>h k (em3 hk))
def ay9:Sp:=fun vs H Q _=>∃n:Int,vs=[.int n]/\n<=2000/\Q .non H
theorem ap3:m9 ["many"] ["many"] (j7 X8):=⟨rfl,rfl,rfl,by decide+kernel,rfl,by decide+kernel,by decide+kernel⟩
theorem ap4 {f:Addr}{fd:FuncData}(F:C7 K "must_be_few" "must_be_few" X8 f fd)(g_MOST_TOLD:∃t,mg "MOST_TOLD"=some (.int 2000 t)):n6 P w K mg base E9 1 f fd ["many"] ay9:=by
 refine F.ok ap3 (fun vs H Q E h=> ?_) (fun cdv A outer s H vs Q E hr h=> ?_)
 · obtain ⟨n,rfl,hn,q⟩:=h;rfl
 · obtain ⟨n,rfl,hn,q⟩:=h;obtain ⟨_,m_MOST_TOLD⟩:=g_MOST_TOLD;refine ⟨_,@g6 _ _ _ (@B5 _ _ _ _ _ _ _ _ (@j8 _ _ _ _ _ _ _ _ aq0 (pv 0) (@O2 _ _ (.int 2000) _ _ (by rfl) m_MOST_TOLD ⟨_,rfl⟩ (by decide)) (n5 _)) (@g6 _ _ _ (@ab1 _ _)) (@o4 _)),?_⟩
   try dsimp only[x9,Cx.nox,Cx.wish]
   refine ⟨_,rfl,_,_,rfl,rfl,_,rfl,?_⟩;rw[decide_eq_false (show ¬(2000:Int) < n by omega)];exact C0 q
structure R5 (p:List Int)(m:Nat)(ts:List (List Int)):Prop where
 len:ts.length=w9 p m
 srt:ts.Pairwise (fun r r'=>HT.ba0 r' r=false)
 src:w9 p m=0\/∃ks:List Nat,ks.Nodup/\(∀k∈ks,∃r∈q9 p p.length,r.length=k)/\(∀r∈q9 p p.length,r.length∈ks)/\ts.Perm (S4 p (ks.map (chF (q9 p p.length) m)))
def cl2 (H:Hp)(c:Addr)(ways:List (List (Int×Int))):Prop:=∃us,H c=some (.lst (us.map V.ref))/\M6 (au6 H) us ways
theorem cl2.keep {H H':Hp}{c:Addr}{ways:List (List (Int×Int))}(h:cl2 H c ways)(s:e8 H H'):cl2 H' c ways:=by
 obtain ⟨us,a,b⟩:=h;exact ⟨us,s _ _ a,b.imp fun u es _ e=>(Kp.of s).tab u es e⟩
def ae7:Sp:=fun vs H Q _=>∃(a:Addr) (p:List Int) (m:Nat),vs=[.ref a,.int (m:Int)]/\C3 H a p/\1<=m/\w9 p m<=2000/\∀(o:Addr) (bs:List Addr) (ts:List (List Int)) (H':Hp),H o=none->H' o=some (.lst (bs.map V.ref))->o3 H' bs ts->R5 p m ts->bs.Nodup->(∀b∈bs,H b=none)->o∉bs->Kp H H'->Q (.ref o) H'
theorem N4:m9 ["p","m","many","by_length","choices","length","rings"] ["p","m"] (j7 ad4):=⟨rfl,rfl,rfl,by decide+kernel,rfl,by decide+kernel,by decide+kernel⟩
theorem az0 {f:Addr}{fd:FuncData}(F:C7 K "all_roots" "all_roots" ad4 f fd)(B:Bl mg)(c_how_many_roots:n0 P w K mg base "how_many_roots" 4 ["p","m"] aj1)(c_must_be_few:n0 P w K mg base "must_be_few" 1 ["many"] ay9)(c_sort_by_length:n0 P w K mg base "sort_by_length" 1 ["rings"] bb1)(c_walk_rings:n0 P w K mg base "walk_rings" 2 ["p"] Z5)(c_ways_to_join:n0 P w K mg base "ways_to_join" 43 ["rings","right","m"] (ay6 40))(c_right_numbers:n0 P w K mg base "right_numbers" 2 ["length","m","most"] at4)(c_lay_every_way:n0 P w K mg base "lay_every_way" 1 ["p","choices"] cl0):n6 P w K mg base E9 44 f fd ["p","m"] ae7:=by
 refine F.ok N4 (fun vs H Q E h=> ?_) (fun cdv A outer s H vs Q E hr h=> ?_)
 · obtain ⟨a,p,m,rfl,⟨ha,tp,lp⟩,m1,few,q⟩:=h;rfl
 · obtain ⟨a,p,m,rfl,⟨ha,tp,lp⟩,m1,few,q⟩:=h;have hr_how_many_roots:l9 4 _:=hr.mono (by decide);have hr_must_be_few:l9 1 _:=hr.mono (by decide);have hr_sort_by_length:l9 1 _:=hr.mono (by decide);have hr_walk_rings:l9 2 _:=hr.mono (by decide);have hr_ways_to_join:l9 43 _:=hr.mono (by decide);have hr_right_numbers:l9 2 _:=hr.mono (by decide);have hr_lay_every_way:l9 1 _:=hr.mono (by decide);have hu:=P9 hr;refine ⟨_,@c7 _ _ _ _ _ (@i4 _ _ (2) _ _ _ _ N4.nd rfl (Or.inl rfl) (@i8 _ _ _ _ _ _ _ _ _ _ c_how_many_roots hr_how_many_roots (@c5 _ _ _ _ _ (pv 0) (@c5 _ _ _ _ _ (pv 1) (@c6 _) (by rfl)) (by rfl)) (by rfl) (by decide) (by rfl) (by rfl)) (by rfl) (by first|exact .inl rfl|exact .inr rfl|assumption)) (@c7 _ _ _ _ _ (@y6 _ _ _ _ (@i8 _ _ _ _ _ _ _ _ _ _ c_must_be_few hr_must_be_few (@c5 _ _ _ _ _ (pv 2) (@c6 _) (by rfl)) (by rfl) (by decide) (by rfl) (by rfl)) (by rfl)) (@c7 _ _ _ _ _ (@B5 _ _ _ _ _ _ _ _ (@j8 _ _ _ _ _ _ _ _ ad0 (pv 2) (@g9 _ _ _ _) (n5 _)) (@g6 _ _ _ (@l8 _ _ _ _ (@o8 _ _ _ _ (@c6 _)))) (@o4 _)) (@c7 _ _ _ _ _ (@i4 _ _ (3) _ _ _ _ N4.nd rfl (Or.inl rfl) (@i8 _ _ _ _ _ _ _ _ _ _ c_sort_by_length hr_sort_by_length (@c5 _ _ _ _ _ (@i8 _ _ _ _ _ _ _ _ _ _ c_walk_rings hr_walk_rings (@c5 _ _ _ _ _ (pv 0) (@c6 _) (by rfl)) (by rfl) (by decide) (by rfl) (by rfl)) (@c6 _) (by rfl)) (by rfl) (by decide) (by rfl) (by rfl)) (by rfl) (by first|exact .inl rfl|exact .inr rfl|assumption)) (@c7 _ _ _ _ _ (@i4 _ _ (4) _ _ _ _ N4.nd rfl (Or.inl rfl) (@o8 _ _ _ _ (@c6 _)) (by rfl) (by first|exact .inl rfl|exact .inr rfl|assumption)) (@c7 _ _ _ _ _ (@o6 _ _ _ _ _ _ _ _ PassesOwn.never rfl (@bl1 _ _ _ _ (pv 3)) (@j6 _ _ (5) _ N4.nd rfl (Or.inl rfl) (by first|exact .inl rfl|exact .inr rfl|assumption)) (@c7 _ _ _ _ _ (@i4 _ _ (6) _ _ _ _ N4.nd rfl (Or.inl rfl) (@an5 _ _ _ _ _ _ hu (pv 3) (pv 5) (fun _ _=>rfl)) (by rfl) (by first|exact .inl rfl|exact .inr rfl|assumption)) (@g6 _ _ _ (@y6 _ _ _ _ (@E4 _ _ _ _ _ _ _ (pv 4) (@c5 _ _ _ _ _ (@i8 _ _ _ _ _ _ _ _ _ _ c_ways_to_join hr_ways_to_join (@c5 _ _ _ _ _ (pv 6) (@c5 _ _ _ _ _ (@i8 _ _ _ _ _ _ _ _ _ _ c_right_numbers hr_right_numbers (@c5 _ _ _ _ _ (pv 5) (@c5 _ _ _ _ _ (pv 1) (@c5 _ _ _ _ _ (@x6 _ _ _ _ _ B.len (@c5 _ _ _ _ _ (pv 6) (@c6 _) (by rfl)) (by rfl) (by rfl)) (@c6 _) (by rfl)) (by rfl)) (by rfl)) (by rfl) (by decide) (by rfl) (by rfl)) (@c5 _ _ _ _ _ (pv 1) (@c6 _) (by rfl)) (by rfl)) (by rfl)) (by rfl) (by decide) (by rfl) (by rfl)) (@c6 _) (by rfl)) (by rfl) (by rfl) (by rfl) (by rfl) (by rfl)) (by rfl)))) (by intro _;rfl)) (@g6 _ _ _ (@l8 _ _ _ _ (@i8 _ _ _ _ _ _ _ _ _ _ c_lay_every_way hr_lay_every_way (@c5 _ _ _ _ _ (pv 0) (@c5 _ _ _ _ _ (pv 4) (@c6 _) (by rfl)) (by rfl)) (by rfl) (by decide) (by rfl) (by rfl))))))))),?_⟩;refine ck8 ?_;intros
   try dsimp only[x9,Cx.nox,Cx.wish]
   refine ⟨_,rfl,_,rfl,a,p,m,rfl,⟨ha,tp,lp⟩,m1,fun H1 s1=> ?_⟩;refine ⟨_,rfl,_,rfl,by omega,?_⟩;refine ⟨_,rfl,rfl,_,rfl,?_⟩
   by_cases z0:w9 p m=0
   · rw[decide_eq_true (by rw[z0];rfl)];refine L9 ⟨eb4 _,fun o ho=> ?_⟩;exact q o [] [] _ (s1.free ho) c8 ⟨rfl,fun j b r h=>by cases h⟩ ⟨by rw[z0];rfl,List.Pairwise.nil,.inl z0⟩ ef6 (fun b hb=>by cases hb) (fun z=>by cases z) (Kp.of (s1.trans (e8.upd_new ho)))
   rw[decide_eq_false (fun z=>z0 (by have:=V.int.inj z;omega))];refine C0 ?_;refine ⟨_,rfl,a,p,rfl,⟨s1 a _ ha,tp,lp⟩,fun l as rs H2 hl s12 h2l rows up fa nda nla=> ?_⟩;have cl:=ac7 up;have fl:=aa5 tp up;have ers:rs=q9 p p.length:=up.eq;refine ⟨l,as,rs,rfl,h2l,rows,by omega,fun d es H3 hd s23 h3d bl les fre=> ?_⟩;refine ⟨eb4 _,fun C hC=> ?_⟩;have s4:e8 H3 (c9 H3 C (.lst [])):=e8.upd_new hC;have h4C:(c9 H3 C (.lst [])) C=some (.lst (([]:List Addr).map V.ref)):=c8;generalize (c9 H3 C (.lst []))=H4 at s4 h4C ⊢;have hC2:H2 C=none:=s23.free hC;have ndC:d≠C:=g8 h3d hC;refine ⟨_,rfl,d,C8 es,rfl,s4 _ _ h3d,fun o=> ?_⟩;have sB:e8 H2 (c9 H4 d (.frz o (.dK (C8 es)))):=(s23.trans s4).upd_r hd;have hBd:(c9 H4 d (.frz o (.dK (C8 es)))) d=some (.frz o (.dK (C8 es))):=c8
   have kpB:∀c,c≠d->(c9 H4 d (.frz o (.dK (C8 es)))) c=H4 c:=fun c hc=>g7 hc
   have hBC:(c9 H4 d (.frz o (.dK (C8 es)))) C=some (.lst (([]:List Addr).map V.ref)):=by rw[g7 ndC.symm];exact h4C
   generalize (c9 H4 d (.frz o (.dK (C8 es))))=HB at sB hBd kpB hBC ⊢
   have lkv:(C8 es).length=es.length:=by unfold C8;rw[dz0]
   have hprod:y8 (fun l=>E2 l m (w6 rs l)) (es.map (·.1))=w9 p m:=by
     rw[ak5 tp up bl.nk bl.key bl.all (f:=fun l=>E2 l m (w6 rs l)) fun u hu=>by show E2 u m (w6 rs u)=1;rw[hu];rfl,ers];rfl
   have pos:=ca8 (g:=fun l=>E2 l m (w6 rs l)) (ks:=es.map (·.1)) (by rw[hprod];exact z0)
   have fl40:∀k∈es.map (·.1),0 < k/\(K9 rs k).length*k<=40/\(K9 rs k).length<=40/\k<=40:=fun k hk=>by
     obtain ⟨r,hr,lr⟩:=bl.key k hk;have rb:=rsb tp up r hr
     have e1:=V8 (l:=k) (rs:=K9 rs k) fun r hr=>(M8 hr).2
     have e2:=(U1 rs k).length_le
     have k1:0 < k:=by omega
     have e3:(K9 rs k).length*k<=40:=by rw[<-e1];omega
     exact ⟨k1,e3,ea4 (ed5 _ k1) e3,by omega⟩
   have s02:e8 H H2:=s1.trans s12
   refine ar6 (fun i σ H6=>∃(cs:List Addr) (v5 v6:Option V),σ=[some (.ref a),some (.int (m:Int)),some (.int ((w9 p m:Nat):Int)),some (.ref d),some (.ref C),v5,v6]/\H6 C=some (.lst (cs.map V.ref))/\M6 (cl2 (O1 H6 [C])) cs (((es.take i).map (·.1)).map (chF rs m))/\j5 C HB H6)
     ⟨[],none,none,rfl,hBC,M6.nil,j5.refl _ _⟩ (fun i σ H6 _ ⟨_,_,_,_,_,_,k⟩=>k _ _ hBd ndC) ?_ ?_
   · rintro i k v σ H6 hi ⟨cs,v5,v6,rfl,h6C,atc,kb6⟩;unfold C8 at hi;rw[dz4] at hi
     cases hE:es[i]? with
     |none=>rw[hE] at hi;cases hi
     |some e=>
      rw[hE] at hi;cases hi;have he:=dz8 hE;have hek:e.1∈es.map (·.1):=ea2.mpr ⟨e,he,rfl⟩;have il:i < es.length:=(dz2.mp hE).1;obtain ⟨k1,k2,k3,k4⟩:=fl40 e.1 hek;obtain ⟨bs,hbs,rbs⟩:=bl.row e he;have neC:e.2≠C:=g8 hbs hC;have h6e:H6 e.2=some (.lst (bs.map V.ref)):=kb6 _ _ (by rw[kpB _ (bl.nd e he)];exact s4 _ _ hbs) neC;have h6d:=kb6 _ _ hBd ndC;have s26:e8 H2 H6:=sB.kb kb6 hC2
      have lbs:bs.length=w6 rs e.1:=by rw[rbs.1,ba5]
      have ecnt:=ba5 rs e.1;refine ⟨_,rfl,_,rfl,d,.ref e.2,rfl,.inl ⟨C8 es,Sum.inl (e.1:Int),.inr ⟨o,h6d⟩,rfl,(cs2 bl.nk he).symm⟩,?_⟩;refine ⟨_,rfl,.inl ⟨rfl,_,h8.of h6C⟩,_,rfl,_,rfl,_,rfl,_,rfl,e.2,_,rfl,.inl (h8.of h6e),e.1,m,w6 rs e.1,by rw[dz0,lbs];rfl,by omega,by omega,fun ra H7 hra s7 h7ra=> ?_⟩;obtain ⟨d0,bas⟩:=bb5 (l:=e.1) (m:=m) (n:=w6 rs e.1) m1
      have jle:jf e.1 (A0 e.1 m (w6 rs e.1)) (K9 rs e.1).length<=2000:=by
        rw[ecnt];refine ea4 (show E2 e.1 m (w6 rs e.1)<=_ from dh4 (g:=fun l=>E2 l m (w6 rs l)) pos hek) ?_;rw[hprod];exact few
      have jne:jf e.1 (A0 e.1 m (w6 rs e.1)) (K9 rs e.1).length≠0:=by
        rw[ecnt];have:1<=E2 e.1 m (w6 rs e.1):=pos e.1 hek;intro y;have y:E2 e.1 m (w6 rs e.1)=0:=y;omega
      have fw:=ct5 (l:=e.1) bas k1 40 k3 (en8 ecnt) (fun r hr=>(M8 hr).2) (ct4 bas _ _ (dz3 _) jne) jle;refine ⟨_,rfl,e.2,bs,K9 rs e.1,ra,A0 e.1 m (w6 rs e.1),e.1,m,rfl,s7 _ _ h6e,B6 rbs fun b _ u x=>s7 _ _ (s26 _ _ x),h7ra,k3,fun r hr=>(M8 hr).2,k1,k2,(U1 rs e.1).nodup up.nd,m1,fun d hd=>V9 hd,fw,fun oo us H8 hoo s8 h8o und ufr atw=> ?_⟩;have s68:=s7.trans s8
      have lcs:cs.length<=40:=by
        have:=atc.1;rw[dz0,dz0,eb2] at this;omega
      have h7C:=s7 _ _ h6C;refine ⟨C,_,_,rfl,rfl,s68 _ _ h6C,x8 (by rw[dz0];omega),?_⟩;rw[show cs.map V.ref++[V.ref oo]=(cs++[oo]).map V.ref by rw[dz6];rfl];refine ⟨cs++[oo],_,_,rfl,c8,?_,(kb6.trans (s68.but C)).upd_a⟩;rw[bn0 dz7,l6 hE,dz6,dz6];refine M6.snoc (atc.imp fun c ways _ h=>h.keep (L4 s68)) ?_
      have nC:∀u,H7 u=none->u∉[C]:=fun u hu z=>by rw[ea1.mp z,h7C] at hu;cases hu
      refine ⟨us,by rw[O8 (nC oo hoo)];exact h8o,?_⟩;unfold chF;refine ⟨by rw[atw.1,dz0],fun j u x e1 e2=> ?_⟩;rw[dz4] at e2;obtain ⟨w,hw,ww⟩:=atw.get e1;rw[hw] at e2;cases e2;refine .inl ?_;rw[O8 (nC u (ufr u (dz8 e1)))];exact ww
   · rintro σ H6 ⟨cs,v5,v6,rfl,h6C,atc,kb6⟩;rw[lkv,ec4] at atc;have s26:e8 H2 H6:=sB.kb kb6 hC2;have s06:=s02.trans s26
     have cntk:∀k∈es.map (·.1),(chF rs m k).length=E2 k m (w6 rs k):=fun k hk=>ch3 (fl40 k hk).2.2.1
     refine ⟨_,rfl,_,rfl,a,C,p,cs,(es.map fun (x:Nat×Addr)=>x.1).map (chF rs m),rfl,s06 _ _ ha,lp,h6C,atc.imp fun c ways _ h=>h.keep (ca1 _ _),fun ways hw x hx=> ?_,fun i=> ?_,fun oo bs ts H7 hoo h7o rowsB pr srt bnd bfr ob kp=> ?_⟩
     · obtain ⟨k,hk,rfl⟩:=ea2.mp hw;obtain ⟨k1,k2,k3,k4⟩:=fl40 k hk;obtain ⟨w,hw',rfl⟩:=ea2.mp hx;have wo:=bj5 (l:=k) (m:=m) (ds:=A0 k m (w6 rs k)) (fun d hd=>(J8 hd).1) 40 k3 (fun r hr=>(M8 hr).2) hw'
       have rr:∀c∈w,R4 k m c.length:=fun c hc=>V9 (wo.right c hc).1
       have fnd:=(U1 rs k).nodup up.nd;refine ⟨ca7 k1 m1 w rr (wo.perm.nodup_iff.mpr fnd),fun e he=> ?_⟩;have em:=(aj7 k1 m1 w rr).1 e.1 (ea2.mpr ⟨e,he,rfl⟩);have em:=(U1 rs k).mem (wo.perm.mem_iff.mp em);obtain ⟨r,hr,hxr⟩:=ec9.mp em;obtain ⟨y,L,hy,pr2,er,_⟩:=up.ring r hr;rw[er] at hxr;exact ab8 tp hy _ hxr
     · rw[<-et2,ak8 p (chF rs m) (fun l=>E2 l m (w6 rs l)) _ _ (dz3 _) fun k hk=>cntk k (ef0 hk)];refine ea4 (ct7 pos i) ?_;rw[hprod];exact few
     · refine q oo bs ts H7 (s06.free hoo) h7o rowsB ⟨?_,srt,.inr ⟨es.map (·.1),bl.nk,by rw[<-ers];exact bl.key,by rw[<-ers];exact bl.all,by rw[<-ers];exact pr⟩⟩ bnd (fun b hb=>s06.free (bfr b hb)) ob ((Kp.of s06).trans kp);rw[pr.length_eq,ak8 p (chF rs m) (fun l=>E2 l m (w6 rs l)) _ _ (dz3 _) cntk,hprod]
end
end My
namespace My
local macro_rules|`(tactic|omega)=>`(tactic|lia)
open PySem L2 Mth
section
def Rg (p:List Int)(l:Nat)(r:List Int):Prop:=∃y,In p y/\K7 p y l/\r=j9 p y l
theorem Rg.rot {p:List Int}(t:y7 p){l:Nat}{r:List Int}(h:Rg p l r)(b:Nat)(hb:b < l):Rg p l (r.drop b++r.take b):=by
 obtain ⟨y,hy,py,rfl⟩:=h;refine ⟨it p b y,P0 t hy b,py.shift t hy b,?_⟩
 refine ed7 fun i=> ?_
 have e1:∀j,(j9 p y l)[j]? =if j < l then some (it p j y) else none:=fun j=>by
   unfold j9;rw[dz4]
   by_cases c:j < l
   · rw[ed8 c,if_pos c];rfl
   · rw[ea5 (by rw[ec5];omega),if_neg c];rfl
 have e2:(j9 p (it p b y) l)[i]? =if i < l then some (it p i (it p b y)) else none:=by
   unfold j9;rw[dz4]
   by_cases c:i < l
   · rw[ed8 c,if_pos c];rfl
   · rw[ea5 (by rw[ec5];omega),if_neg c];rfl
 rw[e2,<-J2]
 by_cases c:i < l - b
 · rw[eb6 (by rw[ed2,o7];exact c),el5,e1,if_pos (by omega),if_pos (by omega),eh2]
 · rw[eb9 (by rw[ed2,o7];omega),ed2,o7,ep1]
   by_cases c2:i < l
   · rw[if_pos (by omega),e1,if_pos (by omega),if_pos c2]
     have e3:i+b=(i - (l - b))+l:=by omega
     rw[e3,J2,py.back]
   · rw[if_neg (by omega),if_neg c2]
theorem ch4 {p:List Int}(t:y7 p){l:Nat}{rs:List (List Int)}(h:∀r∈rs,Rg p l r):∀(i:Nat) {y:List Int×List (List Int)},i<=rs.length->y∈L5 rs i->Rg p l y.1
 |0,y,_,z=>by cases z
 |i+1,y,hi,z=>by
  rcases ea3.mp z with z|z
  · exact ch4 t h i (by omega) z
  · obtain ⟨b,hb,rfl⟩:=ea2.mp z
    have il:i < rs.length:=by omega
    have eg:rs.getD i []=rs[i]:=by rw[dz5,dz1 il];rfl
    have hr:=h _ (ec6 il);have hb:=ed1.mp hb;show Rg p l ((rs.getD i []).drop b++(rs.getD i []).take b);rw[eg] at hb ⊢
    have hl:(rs[i]).length=l:=by
      obtain ⟨y,_,_,e⟩:=hr;rw[e,o7]
    exact hr.rot t b (by omega)
theorem ae8 {p:List Int}{l:Nat}{r:List Int}(h:Rg p l r):r.length=l:=by
 obtain ⟨y,_,_,e⟩:=h;rw[e,o7]
theorem aj8 {p:List Int}(t:y7 p){l:Nat}{rs:List (List Int)}(h:∀r∈rs,Rg p l r):∀(k:Nat) {x:List (List Int)×List (List Int)},k < rs.length->x∈C1 rs k->∀r∈x.1,Rg p l r
 |0,x,hk,z,r,hr=>by
  rw[ea1.mp z] at hr;have hr:r∈[rs.getD 0 []]:=hr;rw[ea1.mp hr,dz5,dz1 hk];exact h _ (ec6 hk)
 |k+1,x,hk,z,r,hr=>by
  obtain ⟨x',h',z⟩:=ef4.mp z;obtain ⟨y,hy,rfl⟩:=ea2.mp z;have o:=L7 (fun r hr=>ae8 (h r hr)) k (by omega) h'
  rcases ea3.mp hr with w|w
  · exact aj8 t h k (by omega) h' r w
  · rw[ea1.mp w];exact ch4 t (fun r hr=>h r (o.rows2 r hr)) _ (dz3 _) hy
theorem ct8 {p:List Int}(t:y7 p){l:Nat}{ds:List Nat}(hd:∀d∈ds,1<=d):∀(f:Nat) {rs:List (List Int)} {w:List (List (List Int))},rs.length<=f->(∀r∈rs,Rg p l r)->w∈G5 ds f rs->∀c∈w,∀r∈c,Rg p l r
 |0,rs,w,hf,hl,h,c,hc=>by rw[ea1.mp h] at hc;cases hc
 |f+1,rs,w,hf,hl,h,c,hc=>by
  unfold G5 at h
  by_cases c0:rs.length=0
  · rw[if_pos c0] at h;rw[ea1.mp h] at hc;cases hc
  · rw[if_neg c0] at h;obtain ⟨d,hdm,h⟩:=ef4.mp h;unfold W6 at h
    by_cases c2:d<=rs.length
    · rw[if_pos c2] at h;obtain ⟨x,hx,h⟩:=ef4.mp h;obtain ⟨w',hw',rfl⟩:=ea2.mp h;have d1:=hd d hdm;have o:=L7 (fun r hr=>ae8 (hl r hr)) (d - 1) (by omega) hx
      rcases ea3.mp hc with z|z
      · exact ct8 t hd f (by have:=o.left;omega) (fun r hr=>hl r (o.rows2 r hr)) hw' c z
      · rw[ea1.mp z];exact aj8 t hl (d - 1) (by omega) hx
    · rw[if_neg c2] at h;cases h
theorem ct9 {l k:Nat}(l0:0 < l)(c:ec8 l k=1){Rs:List (List Int)}(h:∀r∈Rs,r.length=l):∃J,K8 l k Rs J:=by
 have it_:=ar8 (d:=Rs.length) l0 c;have pl:=ab9 Rs.length l k;have fl:=V8 h;refine ⟨(ed0 (Rs.length*l)).map fun (i:Nat)=>Rs.flatten.getD ((V2 Rs.length l k).idxOf (i:Int)) 0,by rw[dz0,ec5],?_⟩
 refine ed7 fun n=> ?_
 rw[dz4,dz4]
 by_cases hn:n < Rs.length*l
 · have hp:n < (V2 Rs.length l k).length:=by omega
   rw[dz1 hp,dz1 (show n < Rs.flatten.length by omega)];have v0:=it_.lo _ (ec6 hp);have v1:=it_.hi _ (ec6 hp);show some (G1 _ _)=some (some _)
   congr 1
   unfold G1;rw[dz4,ed8 (by omega)];show some (Rs.flatten.getD ((V2 Rs.length l k).idxOf _) 0)=_;rw[show (((V2 Rs.length l k)[n].toNat:Nat):Int)=(V2 Rs.length l k)[n] by omega,it_.nd.idxOf_getElem n hp,dz5,dz1 (show n < Rs.flatten.length by omega)];rfl
 · rw[ea5 (by omega),ea5 (by omega)];rfl
theorem bf8 {l m:Nat}{c:List (List Int)}(l0:0 < l)(m1:1<=m)(r:R4 l m c.length)(h:∀x∈c,x.length=l):∃k,m=c.length*k/\ec8 l k=1/\K8 l k c (J5 l m c):=by
 obtain ⟨k,e1,e2⟩:=r.parts m1;obtain ⟨J,j⟩:=ct9 l0 e2 h;exact ⟨k,e1,e2,by rw[bf4 l0 r.1 e1 e2 j];exact j⟩
inductive Pkd:List (List (Int×Int))->List (List (List (Int×Int)))->Prop
 |nil:Pkd [] []
 |cons {es:List (Int×Int)} {ess:List (List (Int×Int))} {ways:List (List (Int×Int))} {B0:List (List (List (Int×Int)))}:es∈ways->Pkd ess B0->Pkd (es::ess) (ways::B0)
theorem ca9:∀(B0:List (List (List (Int×Int)))) (laid:List (List Int)) {t:List Int},t∈B0.foldl S3 laid->∃t0∈laid,∃ess,Pkd ess B0/\t=B8 t0 ess.flatten
 |[],laid,t,h=>⟨t,h,[],.nil,rfl⟩
 |c::B0,laid,t,h=>by
  obtain ⟨t1,h1,ess,pk,e⟩:=ca9 B0 (S3 laid c) h;obtain ⟨t0,h0,z⟩:=ef4.mp h1;obtain ⟨es,hes,rfl⟩:=ea2.mp z;refine ⟨t0,h0,es::ess,.cons hes pk,?_⟩;rw[e,ee1];unfold B8;rw[ep4]
theorem bj8:∀(es:List (Int×Int)) (t:List Int) {x:Int},0<=x->(∀e∈es,0<=e.1)->x∉es.map (·.1)->G1 (B8 t es) x=G1 t x
 |[],t,x,_,_,_=>rfl
 |e::es,t,x,x0,lo,h=>by
  rw[ed3,ea8,not_or] at h;show G1 (B8 (t.set e.1.toNat e.2) es) x=_;rw[bj8 es _ x0 (fun e he=>lo e (ea0 _ he)) h.2,ae0 x0 (lo e dz7) h.1]
theorem az1:∀(es:List (Int×Int)) (t:List Int),(es.map (·.1)).Nodup->(∀e∈es,0<=e.1/\e.1 < (t.length:Int))->∀e∈es,G1 (B8 t es) e.1=some e.2
 |[],_,_,_,e,h=>by cases h
 |x::es,t,nd,b,e,h=>by
  rw[ed3,ed6] at nd;have bx:=b x dz7;show G1 (B8 (t.set x.1.toNat x.2) es) e.1=_
  rcases ea8.mp h with rfl|h
  · rw[bj8 es _ bx.1 (fun e he=>(b e (ea0 _ he)).1) nd.1];exact ah4 (by omega)
  · exact az1 es _ nd.2 (fun e he=>by rw[el9];exact b e (ea0 _ he)) e h
end
end My
namespace My
local macro_rules|`(tactic|omega)=>`(tactic|lia)
open PySem L2 Mth
section
theorem bn4 {p:List Int}{rs:List (List Int)}(up:I0 p p.length rs){r:List Int}(hr:r∈rs):Rg p r.length r:=by
 obtain ⟨y,L,hy,pr,er,_⟩:=up.ring r hr;exact ⟨y,hy,by rw[er,o7];exact pr,by rw[er,o7]⟩
theorem ap5 {p:List Int}(t:y7 p){l:Nat}{r:List Int}(h:Rg p l r){x:Int}(hx:x∈r):In p x/\K7 p x l/\ad2 p x=l:=by
 obtain ⟨y,hy,py,rfl⟩:=h;obtain ⟨j,_,rfl⟩:=J3.mp hx;have:=py.shift t hy j;exact ⟨P0 t hy j,this,bd6 this⟩
structure dx2 (p:List Int)(rs:List (List Int))(m k:Nat)(es:List (Int×Int))(w:List (List (List Int))):Prop where
 eq:es=S7 k m w
 perm:(w.map en9).flatten.Perm (K9 rs k).flatten
 right:∀c∈w,R4 k m c.length
 rg:∀c∈w,∀r∈c,Rg p k r
 nd:(es.map (·.1)).Nodup
 keys:∀x∈es.map (·.1),In p x/\ad2 p x=k
theorem bt9 {p:List Int}(t:y7 p)(lp:p.length<=40){rs:List (List Int)}(up:I0 p p.length rs){m k:Nat}(m1:1<=m)(k1:0 < k){es:List (Int×Int)}(h:es∈chF rs m k):∃w,dx2 p rs m k es w:=by
 obtain ⟨w,hw,rfl⟩:=ea2.mp h
 have fr:∀r∈K9 rs k,Rg p k r:=fun r hr=>by
   have:=bn4 up (M8 hr).1;rw[(M8 hr).2] at this;exact this
 have fl:=aa5 t up
 have e1:=V8 (l:=k) (rs:=K9 rs k) fun r hr=>(M8 hr).2
 have e2:=(U1 rs k).length_le;have k3:(K9 rs k).length<=40:=ea4 (ed5 _ k1) (by rw[<-e1];omega);have wo:=bj5 (l:=k) (m:=m) (ds:=A0 k m (w6 rs k)) (fun d hd=>(J8 hd).1) 40 k3 (fun r hr=>(M8 hr).2) hw
 have rr:∀c∈w,R4 k m c.length:=fun c hc=>V9 (wo.right c hc).1
 have fnd:=(U1 rs k).nodup up.nd;refine ⟨w,rfl,wo.perm,rr,ct8 t (fun d hd=>(J8 hd).1) 40 k3 fr hw,ca7 k1 m1 w rr (wo.perm.nodup_iff.mpr fnd),fun x hx=> ?_⟩;obtain ⟨r,hr,hxr⟩:=ec9.mp (wo.perm.mem_iff.mp ((aj7 k1 m1 w rr).1 x hx));obtain ⟨a,_,b⟩:=ap5 t (fr r hr) hxr;exact ⟨a,b⟩
theorem bf9 {p:List Int}{f:Nat->List (List (Int×Int))}:∀(ks:List Nat) {ess:List (List (Int×Int))},ks.Nodup->(∀k∈ks,∀es∈f k,(es.map (·.1)).Nodup/\∀x∈es.map (·.1),In p x/\ad2 p x=k)->Pkd ess (ks.map f)->(ess.flatten.map (·.1)).Nodup/\(∀x∈ess.flatten.map (·.1),In p x/\ad2 p x∈ks)/\∀k∈ks,∃es∈ess,es∈f k
 |[],ess,_,_,pk=>by
  cases pk;exact ⟨ef6,(fun x hx=>by cases hx),(fun k hk=>by cases hk)⟩
 |k::ks,ess,nk,h,pk=>by
  cases pk with
  |cons hes pk=>
   rename_i es ess;rw[ed6] at nk;obtain ⟨a,b,c⟩:=bf9 ks nk.2 (fun k hk=>h k (ea0 _ hk)) pk;obtain ⟨d,e⟩:=h k dz7 es hes;rw[ee1,dz6];refine ⟨?_,fun x hx=> ?_,fun k' hk'=> ?_⟩
   · rw[ef7];refine ⟨d,a,fun x hx y hy z=> ?_⟩;have e1:=(e x hx).2;have e2:=(b y hy).2;rw[<-z,e1] at e2;exact nk.1 e2
   · rcases ea3.mp hx with z|z
     · exact ⟨(e x z).1,by rw[(e x z).2];exact dz7⟩
     · exact ⟨(b x z).1,ea0 _ (b x z).2⟩
   · rcases ea8.mp hk' with rfl|hk'
     · exact ⟨es,dz7,hes⟩
     · obtain ⟨es',h1,h2⟩:=c k' hk';exact ⟨es',ea0 _ h1,h2⟩
theorem br4 {p:List Int}{m:Nat}(tp:y7 p)(lp:p.length<=40)(m1:1<=m){ks:List Nat}(nk:ks.Nodup)(h1:∀k∈ks,∃r∈q9 p p.length,r.length=k)(h2:∀r∈q9 p p.length,r.length∈ks){t:List Int}(ht:t∈S4 p (ks.map (chF (q9 p p.length) m))):y7 t/\D0 t (m:Int) p:=by
 have up:=ah7 tp;generalize q9 p p.length=rs at up h1 h2 ht
 have k0:∀k∈ks,0 < k:=fun k hk=>by
   obtain ⟨r,hr,e⟩:=h1 k hk;have:=(rsb tp up r hr).1;omega
 have hlen:=br1 p _ t ht;obtain ⟨t0,h0,ess,pk,et⟩:=ca9 _ _ ht;rw[ea1.mp h0] at et
 obtain ⟨knd,kin,kall⟩:=bf9 (p:=p) ks nk (fun k hk es hes=>by
   obtain ⟨w,o⟩:=bt9 tp lp up m1 (k0 k hk) hes
   exact ⟨o.nd,o.keys⟩) pk
 have put:=az1 ess.flatten p knd fun e he=>(kin e.1 (ea2.mpr ⟨e,he,rfl⟩)).1
 rw[<-et] at put
 have key:∀x,In p x->∃J,P3 t J/\bx2 p m J x:=fun x hx=>by
   obtain ⟨r0,hr0,hxr⟩:=ec9.mp (up.all x hx.1 hx.2);obtain ⟨es,hes,hef⟩:=kall r0.length (h2 r0 hr0);have k1:=k0 _ (h2 r0 hr0);obtain ⟨w,o⟩:=bt9 tp lp up m1 k1 hef;have xf:x∈(K9 rs r0.length).flatten:=ec9.mpr ⟨r0,by unfold K9;exact ef2.mpr ⟨hr0,decide_eq_true rfl⟩,hxr⟩;obtain ⟨cf,hcf,hxc⟩:=ec9.mp (o.perm.mem_iff.mpr xf);obtain ⟨c,hc,rfl⟩:=ea2.mp hcf;obtain ⟨row,hrow,hxrow⟩:=ec9.mp hxc;obtain ⟨a,ha⟩:=ec1.mp hrow;have al:=(dz2.mp ha).1
   have rows:∀r∈c,r.length=r0.length:=fun r hr=>ae8 (o.rg c hc r hr)
   obtain ⟨kk,e1,e2,js⟩:=bf8 k1 m1 (o.right c hc) rows;obtain ⟨y,hy,py,er⟩:=o.rg c hc row hrow;rw[er] at hxrow;obtain ⟨b,hb,ex⟩:=J3.mp hxrow;have pm:=js.perm k1 e2
   have cnd:c.flatten.Nodup:=by
     have n1:((w.map en9).flatten).Nodup:=o.perm.nodup_iff.mpr ((U1 rs _).nodup up.nd);exact (List.pairwise_flatten.mp n1).1 _ (ea2.mpr ⟨c,hc,rfl⟩)
   refine ⟨J5 r0.length m c,⟨fun z=> ?_,pm.nodup_iff.mpr cnd,fun z hz=> ?_,fun j hj=> ?_⟩,r0.length,kk,c,a,b,y,k1,e1,e2,rows,js,al,hb,hy,py,by rw[dz5,ha];exact er,ex⟩
   · have:=js.len;rw[z] at this;have p1:0 < c.length*r0.length:=eg7 (by omega) k1;rw[<-this] at p1;exact absurd p1 (by simp)
   · obtain ⟨r,hr,hzr⟩:=ec9.mp (pm.mem_iff.mp hz);exact (ap5 tp (o.rg c hc r hr) hzr).1.1
   · refine put ((J5 r0.length m c).getD j 0,(J5 r0.length m c).getD ((j+1)%(J5 r0.length m c).length) 0) (ec9.mpr ⟨es,hes,?_⟩);rw[o.eq];exact ef4.mpr ⟨c,hc,ea2.mpr ⟨j,ed1.mpr hj,rfl⟩⟩
 have qs:∀n,n<=p.length->∃qs:List (List Int),(∀J∈qs,P3 t J)/\∀x:Int,0<=x->x < (n:Int)->∃J∈qs,bx2 p m J x:=fun n=>by
   induction n with
   |zero=>exact fun _=>⟨[],(fun J hJ=>by cases hJ),fun x a b=>by omega⟩
   |succ n ih=>
    intro hn;obtain ⟨qs,a,b⟩:=ih (by omega);obtain ⟨J,c,d⟩:=key (n:Int) ⟨by omega,by omega⟩;refine ⟨J::qs,fun J' hJ'=> ?_,fun x x0 x1=> ?_⟩
    · rcases ea8.mp hJ' with rfl|z
      · exact c
      · exact a J' z
    · by_cases e:x=(n:Int)
      · rw[e];exact ⟨J,dz7,d⟩
      · obtain ⟨J',h1,h2⟩:=b x x0 (by omega);exact ⟨J',ea0 _ h1,h2⟩
 obtain ⟨qs,a,b⟩:=qs p.length (dz3 _)
 exact dd4 tp hlen a fun x hx=>b x hx.1 hx.2
theorem R5.root {p:List Int}{m:Nat}{ts:List (List Int)}(h:R5 p m ts)(tp:y7 p)(lp:p.length<=40)(m1:1<=m):∀t∈ts,y7 t/\D0 t (m:Int) p:=fun t ht=>by
 rcases h.src with z|⟨ks,nk,h1,h2,pr⟩
 · have:=h.len;rw[z] at this;rw[eh9.mp this] at ht;cases ht
 · exact br4 tp lp m1 nk h1 h2 (pr.mem_iff.mp ht)
end
end My
namespace My
local macro_rules|`(tactic|omega)=>`(tactic|lia)
open PySem L2 Mth
section
theorem ae9 {α β:Type}{f:α->List β}{q:β->Bool}{g:α->Bool}:∀{xs:List α},(∀x∈xs,(f x).countP q=if g x=true then 1 else 0)->(xs.flatMap f).countP q=xs.countP g
 |[],_=>rfl
 |x::xs,h=>by
  rw[ee2,List.countP_append,h x dz7,ae9 fun y hy=>h y (ea0 _ hy),ej0,eh2]
theorem cu0 {z:Int}:∀{xs:List Int},xs.Nodup->z∈xs->xs.countP (fun x=>decide (x=z))=1
 |x::xs,nd,h=>by
  rw[ed6] at nd;rw[ej0]
  by_cases c:x=z
  · rw[if_pos (decide_eq_true c),ej7.mpr fun y hy e=>nd.1 (by rw[c,<-of_decide_eq_true e];exact hy)]
  · rw[if_neg (by rw[decide_eq_false c];decide),cu0 nd.2 ((ea8.mp h).resolve_left fun e=>c e.symm)]
theorem ch6 {z:Nat}:∀{xs:List Nat},xs.Nodup->z∈xs->xs.countP (fun x=>decide (x=z))=1
 |x::xs,nd,h=>by
  rw[ed6] at nd;rw[ej0]
  by_cases c:x=z
  · rw[if_pos (decide_eq_true c),ej7.mpr fun y hy e=>nd.1 (by rw[c,<-of_decide_eq_true e];exact hy)]
  · rw[if_neg (by rw[decide_eq_false c];decide),ch6 nd.2 ((ea8.mp h).resolve_left fun e=>c e.symm)]
theorem bj9 (rs:List (List Int)):∀i,i<=rs.length->(L5 rs i).map (fun y=>y.1.getD 0 0)=(rs.take i).flatten
 |0,_=>rfl
 |i+1,h=>by
  show (L5 rs i++ae5 rs i (rs.getD i [])).map _=_
  have il:i < rs.length:=by omega
  have eg:rs.getD i []=rs[i]:=by rw[dz5,dz1 il];rfl
  rw[dz6,bj9 rs i (by omega),ev7,dz1 il,eg6]
  congr 1
  show _=[rs[i]].flatten;rw[eh1,eg];unfold ae5;rw[ee4]
  refine ed7 fun b=> ?_
  rw[dz4]
  by_cases hb:b < rs[i].length
  · rw[ed8 hb,dz1 hb];show some ((rs[i].drop b++rs[i].take b).getD 0 0)=_;rw[dz5,eb6 (by rw[ed2];omega),el5,eg8,dz1 hb];rfl
  · rw[ea5 (by rw[ec5];omega),ea5 (by omega)];rfl
theorem cz8 {rs:List (List Int)}(nd:rs.flatten.Nodup){z:Int}(hz:z∈rs.flatten):(L5 rs rs.length).countP (fun y=>decide (y.1.getD 0 0=z))=1:=by
 have e:=bj9 rs rs.length (dz3 _);rw[ec4] at e
 have h:((L5 rs rs.length).map (fun y=>y.1.getD 0 0)).countP (fun x=>decide (x=z))=1:=by
   rw[e];exact cu0 nd hz
 rw[en3] at h;exact h
theorem av4:∀{a b:List Int},a.Nodup->(∀x∈a,x∈b)->a.length<=b.length
 |[],_,_,_=>eb4 _
 |x::a,b,nd,h=>by
  rw[ed6] at nd;have hx:=h x dz7
  have:=av4 (b:=b.erase x) nd.2 fun y hy=>(List.mem_erase_of_ne (fun (e:y=x)=>nd.1 (by rw[<-e];exact hy))).mpr (h y (ea0 _ hy))
  rw[List.length_erase_of_mem hx] at this;have:=List.length_pos_of_mem hx;rw[ee9];omega
def hdC (c:List (List Int)):List Int:=c.map fun r=>r.getD 0 0
theorem ch7 {p:List Int}{l:Nat}(l0:0 < l){r:List Int}(h:Rg p l r):r=j9 p (r.getD 0 0) l/\In p (r.getD 0 0)/\K7 p (r.getD 0 0) l:=by
 obtain ⟨y,hy,py,rfl⟩:=h
 have e:(j9 p y l).getD 0 0=y:=by rw[dz5,Z2 l0];rfl
 rw[e];exact ⟨rfl,hy,py⟩
theorem au7 {p:List Int}{l:Nat}(l0:0 < l){c:List (List Int)}(h:∀r∈c,Rg p l r):c=(hdC c).map fun z=>j9 p z l:=by
 unfold hdC;rw[ee4]
 conv=>lhs;rw[<-en6 c]
 exact ef3 fun r hr=>(ch7 l0 (h r hr)).1
theorem bg0 {l:Nat}{rs:List (List Int)}(hl:∀r∈rs,r.length=l)(nd:rs.flatten.Nodup){k:Nat}{x:List (List Int)×List (List Int)}(hk:k < rs.length)(hx:x∈C1 rs k):x.1.flatten.Nodup/\x.2.flatten.Nodup/\(∀u∈x.1.flatten,u∉x.2.flatten)/\∀u,u∈rs.flatten↔u∈x.1.flatten\/u∈x.2.flatten:=by
 have o:=L7 hl k hk hx;have n:=o.perm.nodup_iff.mpr nd;rw[ef7] at n;exact ⟨n.1,n.2.1,fun u h1 h2=>n.2.2 u h1 u h2 rfl,fun u=>by rw[<-o.perm.mem_iff,ea3]⟩
theorem br5 {p:List Int}(tp:y7 p){l:Nat}(l0:0 < l){rs:List (List Int)}(hr:∀r∈rs,Rg p l r)(nd:rs.flatten.Nodup){z:Nat->Int}(h0:(rs.getD 0 []).getD 0 0=z 0){n:Nat}(hz:∀a,a < n->z a∈rs.flatten)(ap:∀a b,a < b->b < n->z b∉j9 p (z a) l):∀k,k < rs.length->k < n->(C1 rs k).countP (fun x=>decide (hdC x.1=(ed0 (k+1)).map z))=1
 |0,hk,_=>by
  show List.countP _ [([rs.getD 0 []],rs.drop 1)]=1;rw[List.countP_singleton,if_pos];refine decide_eq_true ?_;show [(rs.getD 0 []).getD 0 0]=[z 0];rw[h0]
 |k+1,hk,hn=>by
  show ((C1 rs k).flatMap nxC).countP _=1;rw[ae9 (g:=fun x=>decide (hdC x.1=(ed0 (k+1)).map z)),br5 tp l0 hr nd h0 hz ap k (by omega) (by omega)];intro x hx;have o:=L7 (fun r hr'=>ae8 (hr r hr')) k (by omega) hx;obtain ⟨n1,n2,n3,n4⟩:=bg0 (fun r hr'=>ae8 (hr r hr')) nd (by omega) hx;unfold nxC;rw[en3]
  by_cases c:hdC x.1=(ed0 (k+1)).map z
  · rw[if_pos (decide_eq_true c)]
    have hzk:z (k+1)∈x.2.flatten:=by
      refine ((n4 _).mp (hz (k+1) hn)).resolve_left fun w=> ?_
      rw[au7 l0 (aj8 tp hr k (by omega) hx),c,ee4] at w;obtain ⟨r,hr',hw⟩:=ec9.mp w;obtain ⟨a,ha,rfl⟩:=ea2.mp hr';exact ap a (k+1) (ed1.mp ha) hn hw
    refine Eq.trans ?_ (cz8 n2 hzk)
    refine en7 fun y hy=> ?_
    show decide (hdC (x.1++[y.1])=(ed0 (k+1+1)).map z)=true↔decide (y.1.getD 0 0=z (k+1))=true;rw[ej6,dz6,decide_eq_true_iff,decide_eq_true_iff];unfold hdC at c ⊢;rw[dz6,c];constructor
    · intro e;have:=List.append_cancel_left e;exact (List.cons.inj this).1
    · intro e;show _++[y.1.getD 0 0]=_++[z (k+1)];rw[e]
  · rw[if_neg (by rw[decide_eq_false c];decide),ej7];intro y hy e;have e:hdC (x.1++[y.1])=(ed0 (k+1+1)).map z:=of_decide_eq_true e;unfold hdC at c e;rw[ej6,dz6,dz6] at e;refine c (List.append_inj e ?_).1;rw[dz0,dz0,ec5,o.len]
end
end My
namespace My
local macro_rules|`(tactic|omega)=>`(tactic|lia)
open PySem L2 Mth
section
theorem do3 {t:List Int}(tt:y7 t){x:Int}(hx:In t x){L:Nat}(h:K7 t x L){i j:Nat}(hi:i < L)(hj:j < L)(e:it t i x=it t j x):i=j:=by
 have key:∀{i j:Nat},i<=j->j < L->it t i x=it t j x->i=j:=fun {i j} c hj e=>by
   have e2:it t (j - i) (it t i x)=it t i x:=by rw[<-J2,ek7 c,e]
   obtain ⟨q,hq⟩:=cf1 (h.shift tt hx i) e2
   rcases q with _|q
   · omega
   · rw[eu1] at hq;omega
 rcases Nat.le_total i j with c|c
 · exact key c hj e
 · exact (key c hi e.symm).symm
theorem bb6 {p t:List Int}{m:Nat}(tt:y7 t)(pw:D0 t (m:Int) p){x:Int}(hx:In t x)(i:Nat):it p i x=it t (m*i) x:=by
 obtain ⟨L,hL⟩:=ax0 tt hx;exact bh8 tt pw hx hL (by rw[Int.sub_self];rfl) i
structure ap6 (t:List Int)(m l:Nat)(x:Int)(d k:Nat):Prop where
 per:K7 t x (d*l)
 d1:1<=d
 em:m=d*k
 co:ec8 l k=1
 right:ec8 (d*l) m=d
theorem dh5 {p t:List Int}{m l:Nat}(tt:y7 t)(pw:D0 t (m:Int) p){x:Int}(hx:In t x)(hl:K7 p x l):∃d k,ap6 t m l x d k:=by
 obtain ⟨L,hL⟩:=ax0 tt hx;have el:=hl.uniq (dd5 tt pw hx hL (m:=m) (by rw[Int.sub_self];rfl));have gp:0 < ec8 L m:=Nat.gcd_pos_of_pos_left _ hL.pos;have cp:ec8 (L/ec8 L m) (m/ec8 L m)=1:=er0 gp
 have e1:L=ec8 L m*l:=by rw[el,eo7 (et6 L m)]
 have e2:m=ec8 L m*(m/ec8 L m):=(eo7 (em0 L m)).symm;refine ⟨ec8 L m,m/ec8 L m,by rw[<-e1];exact hL,gp,e2,by rw[el];exact cp,by rw[<-e1]⟩
theorem ap6.apart {p t:List Int}{m l:Nat}(tt:y7 t)(pw:D0 t (m:Int) p){x:Int}(hx:In t x){d k:Nat}(h:ap6 t m l x d k)(l0:0 < l){a b:Nat}(hab:a < b)(hb:b < d):it t b x∉j9 p (it t a x) l:=fun w=>by
 obtain ⟨j,hj,e⟩:=J3.mp w;rw[bb6 tt pw (P0 tt hx a),<-J2,<-aa1 h.per.back (m*j+a)] at e;have dl:d<=d*l:=ed5 _ l0;have e1:=do3 tt hx h.per (i:=b) (j:=(m*j+a)%(d*l)) (by omega) (eh3 _ (by omega)) e
 have e2:b%d=a%d:=by
   rw[e1,Nat.mod_mod_of_dvd _ (Nat.dvd_mul_right d l),h.em,eg1,ev1]
 rw[eg0 hb,eg0 (show a < d by omega)] at e2;omega
def ak9 (p t:List Int)(x:Int)(l d:Nat):List (List Int):=(ed0 d).map fun a=>j9 p (it t a x) l
theorem az2 (p t:List Int)(x:Int)(l d:Nat):(ak9 p t x l d).length=d:=by unfold ak9;rw[dz0,ec5]
theorem ap6.join {p t:List Int}{m l:Nat}(tt:y7 t)(pw:D0 t (m:Int) p){x:Int}(hx:In t x){d k:Nat}(h:ap6 t m l x d k)(l0:0 < l):K8 l k (ak9 p t x l d) (j9 t x (d*l)):=by
 have rl:=az2 p t x l d
 have rows:∀r∈ak9 p t x l d,r.length=l:=fun r hr=>by
   obtain ⟨a,_,rfl⟩:=ea2.mp hr;exact o7 _ _ _
 have fg:=ar9 l0 rows;refine ⟨by rw[o7,rl],?_⟩;rw[rl]
 refine ed7 fun n=> ?_
 rw[dz4,dz4]
 by_cases hn:n < d*l
 · have en:n/l*l+n%l=n:=by rw[ef5];exact eq5 n l
   have ha:=ba4 hn;have hb:=eh3 n l0;have f1:=fg.2 (n/l) (n%l) (by rw[rl];exact ha) hb;rw[en] at f1
   have g1:(ak9 p t x l d).getD (n/l) []=j9 p (it t (n/l) x) l:=by
     unfold ak9;rw[dz5,dz4,ed8 ha];rfl
   rw[f1,g1,Z2 hb];unfold V2;rw[dz4,ed8 hn];have pl:=ao3 (k:=k) (step:=n%l) ha l0;show some (G1 (j9 t x (d*l)) ((N6 d l k (n/l) (n%l):Nat):Int))=some (some _);unfold G1;rw[ee0,Z2 pl,bb6 tt pw (P0 tt hx _),<-J2,<-bl2 ha l0,aa1 h.per.back,<-h.em,eh2,ef5]
 · rw[ea5 (by rw[ab9];omega),ea5 (by rw[fg.1,rl];omega)];rfl
def U8 (t:List Int)(es:List (Int×Int)):Bool:=es.all fun e=>decide (nx t e.1=e.2)
theorem bn5 (t:List Int)(a b:List (Int×Int)):U8 t (a++b)=(U8 t a&&U8 t b):=List.all_append
theorem bn6 {t:List Int}{es:List (Int×Int)}:U8 t es=true↔∀e∈es,nx t e.1=e.2:=by
 unfold U8;rw[ei2];exact ⟨fun h e he=>of_decide_eq_true (h e he),fun h e he=>decide_eq_true (h e he)⟩
theorem cz9 {p t:List Int}{m l:Nat}(tp:y7 p)(tt:y7 t)(pw:D0 t (m:Int) p)(m1:1<=m)(l0:0 < l){c:List (List Int)}(hc:∀r∈c,Rg p l r)(nd:c.flatten.Nodup)(rd:R4 l m c.length){x:Int}{d k:Nat}(ra:ap6 t m l x d k)(hx:In t x)(h0:(c.getD 0 []).getD 0 0=x):
   U8 t (K4 (J5 l m c))=true↔c.length=d/\hdC c=(ed0 d).map fun a=>it t a x:=by
 have rows:∀r∈c,r.length=l:=fun r hr=>ae8 (hc r hr)
 have pt:p.length=t.length:=pw.1;constructor
 · intro ok;have ok:=bn6.mp ok;obtain ⟨kk,e1,e2,js⟩:=bf8 l0 m1 rd rows;generalize J5 l m c=J at ok js;have pm:=js.perm l0 e2;have Jl:=js.len;have c1:c.length<=c.length*l:=ed5 _ l0
   have inJ:∀u∈J,In p u:=fun u hu=>by
     obtain ⟨r,hr,hur⟩:=ec9.mp (pm.mem_iff.mp hu);exact (ap5 tp (hc r hr) hur).1
   have ro:P3 t J:=⟨fun z=>by
       rw[z] at Jl;have:=rd.1;simp only[eq3] at Jl
       omega,pm.nodup_iff.mpr nd,fun u hu=>(inJ u hu).1,fun j hj=>by
       have hm:J.getD j 0∈J:=by rw[L8 hj];exact ec6 hj
       have hi:=inJ _ hm;rw[ao2 (p:=t) ⟨hi.1,by rw[<-pt];exact hi.2⟩]
       exact congrArg some (ok (J.getD j 0,J.getD ((j+1)%J.length) 0) (ea2.mpr ⟨j,ed1.mpr hj,rfl⟩))⟩
   have pos0:∀a,N6 c.length l kk a 0=a:=fun a=>by
     unfold N6;rw[ee5,Nat.zero_mod,eh5,eg8]
   have J0:J.getD 0 0=x:=by
     have:=js.get l0 rows (a:=0) (b:=0) (by have:=rd.1;omega) l0;rw[pos0] at this;rw[this,h0]
   have jl0:0 < J.length:=by have:=rd.1;omega
   have pr:=ro.per jl0;rw[J0,Jl] at pr;have ed:c.length=d:=eo3 l0 (pr.uniq ra.per);refine ⟨ed,?_⟩
   refine ed7 fun a=> ?_
   unfold hdC;rw[dz4,dz4]
   by_cases ha:a < c.length
   · rw[ed8 (by omega),dz1 ha];have g:=js.get l0 rows (a:=a) (b:=0) ha l0;rw[pos0] at g;have i1:=ro.it jl0 a;rw[J0,ek0,eg0 (by omega),g] at i1
     have eg:c.getD a []=c[a]:=by rw[dz5,dz1 ha];rfl
     rw[eg] at i1;exact congrArg some i1.symm
   · rw[ea5 (by omega),ea5 (by rw[ec5];omega)];rfl
 · rintro ⟨ed,eh⟩
   have ec:c=ak9 p t x l d:=by
     rw[au7 l0 hc,eh,ee4];rfl
   have j:=ra.join tt pw hx l0
   have ej:J5 l m c=j9 t x (d*l):=by
     rw[ec];exact bf4 l0 (by rw[az2];exact ra.d1) (by rw[az2];exact ra.em) ra.co j
   rw[ej,bn6];intro e he;obtain ⟨i,hi,rfl⟩:=ea2.mp he;have hi:=ed1.mp hi;rw[o7] at hi;show nx t ((j9 t x (d*l)).getD i 0)=(j9 t x (d*l)).getD ((i+1)%(j9 t x (d*l)).length) 0
   have hp:0 < d*l:=by omega
   rw[o7,dz5,Z2 hi,dz5,Z2 (eh3 _ hp),aa1 ra.per.back];rfl
theorem bk0 {rs:List (List Int)}:∀(k:Nat) {x:List (List Int)×List (List Int)},x∈C1 rs k->x.1.getD 0 []=rs.getD 0 []
 |0,x,h=>by rw[ea1.mp h];rfl
 |k+1,x,h=>by
  obtain ⟨x',h',z⟩:=ef4.mp h;obtain ⟨y,hy,rfl⟩:=ea2.mp z;have l1:=(ay5 k h').2.2;rw[<-bk0 k h'];show (x'.1++[y.1]).getD 0 []=_;rw[dz5,eb6 (by omega),dz5]
theorem cl3 (l m n:Nat):(A0 l m n).Nodup:=by
 unfold A0;refine List.Nodup.sublist eo8 ?_;rw[ea7,ei3]
 exact (ea7.mp eq0).imp fun h e=>h (by omega)
theorem cl4 {l m n d:Nat}(d1:1<=d)(dn:d<=n)(h:ec8 (d*l) m=d):d∈A0 l m n:=by
 unfold A0;exact ef2.mpr ⟨ea2.mpr ⟨d - 1,ed1.mpr (by omega),by omega⟩,decide_eq_true h⟩
theorem cb0 {p t:List Int}{m l n:Nat}(tp:y7 p)(tt:y7 t)(pw:D0 t (m:Int) p)(m1:1<=m)(l0:0 < l):∀(f:Nat) {rs:List (List Int)},rs.length<=f->rs.length<=n->(∀r∈rs,Rg p l r)->rs.flatten.Nodup->(∀u∈rs.flatten,nx t u∈rs.flatten)->
   (G5 (A0 l m n) f rs).countP (fun w=>U8 t (S7 l m w))=1
 |0,rs,hf,_,_,_,_=>rfl
 |f+1,rs,hf,hn,hr,nd,cl=>by
  unfold G5
  by_cases c:rs.length=0
  · rw[if_pos c];rfl
  · rw[if_neg c]
    have rl:∀r∈rs,r.length=l:=fun r hr'=>ae8 (hr r hr')
    have pt:p.length=t.length:=pw.1
    have g0:rs.getD 0 []∈rs:=by
      rw[dz5,dz1 (show 0 < rs.length by omega)];exact ec6 _
    obtain ⟨h1,h2,h3⟩:=ch7 l0 (hr _ g0)
    have x0m:(rs.getD 0 []).getD 0 0∈rs.flatten:=ec9.mpr ⟨_,g0,by
      have hl:=rl _ g0;rw[L8 (show 0 < (rs.getD 0 []).length by omega)]
      exact ec6 _⟩
    generalize e0:(rs.getD 0 []).getD 0 0=x at h1 h2 h3 x0m;have hx:In t x:=⟨h2.1,by rw[<-pt];exact h2.2⟩;obtain ⟨d,k,ra⟩:=dh5 tt pw hx h3
    have zin:∀a,it t a x∈rs.flatten:=fun a=>by
      induction a with
      |zero=>exact x0m
      |succ a ih=>exact cl _ ih
    have fl:=V8 rl
    have dle:d<=rs.length:=by
      have:=av4 (X4 tt hx ra.per.least) (b:=rs.flatten) (fun u hu=>by
        obtain ⟨j,_,rfl⟩:=J3.mp hu
        exact zin j)
      rw[o7,fl] at this;exact Nat.le_of_mul_le_mul_right this l0
    have din:d∈A0 l m n:=cl4 ra.d1 (by omega) ra.right
    have ap:∀a b,a < b->b < d->it t b x∉j9 p (it t a x) l:=fun a b h1 h2=>ra.apart tt pw hx l0 h1 h2
    rw[ae9 (g:=fun d'=>decide (d'=d)),ch6 (cl3 l m n) din];intro d' hd';have d1:=(J8 hd').1;unfold W6
    by_cases c2:d'<=rs.length
    · rw[if_pos c2]
      have okc:∀x'∈C1 rs (d' - 1),(U8 t (K4 (J5 l m x'.1))=true↔x'.1.length=d/\hdC x'.1=(ed0 d).map fun a=>it t a x):=fun x' hx'=>by
        have o:=L7 rl (d' - 1) (by omega) hx';obtain ⟨n1,n2,n3,n4⟩:=bg0 rl nd (by omega) hx';refine cz9 tp tt pw m1 l0 (aj8 tp hr (d' - 1) (by omega) hx') n1 ?_ ra hx (by rw[bk0 _ hx',e0]);rw[o.len,ek7 d1];exact V9 hd'
      rw[ae9 (g:=fun x'=>U8 t (K4 (J5 l m x'.1)))]
      · by_cases c3:d'=d
        · subst c3;rw[if_pos (decide_eq_true rfl)];have:=br5 tp l0 hr nd (z:=fun a=>it t a x) e0 (n:=d') (fun a _=>zin a) ap (d' - 1) (by omega) (by omega);refine Eq.trans ?_ this
          refine en7 fun x' hx'=> ?_
          have o:=L7 rl (d' - 1) (by omega) hx';rw[okc x' hx',decide_eq_true_iff,o.len,ek7 d1];exact ⟨fun h=>h.2,fun h=>⟨rfl,h⟩⟩
        · rw[if_neg (by rw[decide_eq_false c3];decide),ej7];intro x' hx' ok;have o:=L7 rl (d' - 1) (by omega) hx';have:=((okc x' hx').mp ok).1;rw[o.len,ek7 d1] at this;exact c3 this
      · intro x' hx';have o:=L7 rl (d' - 1) (by omega) hx';obtain ⟨n1,n2,n3,n4⟩:=bg0 rl nd (by omega) hx';rw[en3]
        have ee:∀w,U8 t (S7 l m (w++[x'.1]))=(U8 t (S7 l m w)&&U8 t (K4 (J5 l m x'.1))):=fun w=>by rw[ca6,bn5]
        by_cases c3:U8 t (K4 (J5 l m x'.1))=true
        · rw[if_pos c3];refine Eq.trans ?_ (cb0 (n:=n) tp tt pw m1 l0 f (rs:=x'.2) (by have:=o.left;omega) (by have:=o.left;omega) (fun r hr'=>hr r (o.rows2 r hr')) n2 ?_)
          · refine en7 fun w hw=> ?_
            show U8 t (S7 l m (w++[x'.1]))=true↔_;rw[ee,c3,Bool.and_true]
          · intro u hu;have hur:u∈rs.flatten:=(n4 u).mpr (.inr hu)
            refine ((n4 _).mp (cl u hur)).resolve_left fun w=> ?_
            obtain ⟨q1,q2⟩:=(okc x' hx').mp c3
            have ec:x'.1=ak9 p t x l d:=by
              rw[au7 l0 (aj8 tp hr (d' - 1) (by omega) hx'),q2,ee4];rfl
            have pm:=(ra.join (p:=p) tt pw hx l0).perm l0 ra.co;rw[<-ec] at pm;have w:=pm.mem_iff.mpr w;obtain ⟨j,hj,e⟩:=J3.mp w;obtain ⟨r,hr',hur'⟩:=ec9.mp hur;have hui:=(ap5 tp (hr r hr') hur').1;have hut:In t u:=⟨hui.1,by rw[<-pt];exact hui.2⟩
            have e3:nx t u=nx t (it t (j+(d*l - 1)) x):=by
              rw[e];show it t j x=it t (j+(d*l - 1)+1) x;have:=ra.per.pos;rw[show j+(d*l - 1)+1=j+d*l by omega,J2,ra.per.back]
            have e4:=bh6 tt hut (P0 tt hx _) e3;rw[<-aa1 ra.per.back] at e4;have:u∈j9 t x (d*l):=J3.mpr ⟨_,eh3 _ ra.per.pos,e4⟩;exact n3 u (pm.mem_iff.mp this) hu
        · rw[if_neg c3,ej7];intro w hw ok;have ok:U8 t (S7 l m (w++[x'.1]))=true:=ok;rw[ee,ef1] at ok;exact c3 ok.2
    · rw[if_neg c2,if_neg (by rw[decide_eq_false (show ¬d'=d by omega)];decide)];rfl
end
end My
namespace My
local macro_rules|`(tactic|omega)=>`(tactic|lia)
open PySem L2 Mth
section
def aa7:List (List (List (Int×Int)))->List (List (Int×Int))
 |[]=>[[]]
 |c::B0=>c.flatMap fun es=>(aa7 B0).map fun e=>es++e
theorem cl5 (t:List Int)(a b:List (Int×Int)):B8 t (a++b)=B8 (B8 t a) b:=by
 unfold B8;exact ep4
theorem bc9:∀(B0:List (List (List (Int×Int)))) (laid:List (List Int)),B0.foldl S3 laid=laid.flatMap fun t0=>(aa7 B0).map (B8 t0)
 |[],laid=>by
  show laid=laid.flatMap fun t0=>[t0]
  induction laid with
  |nil=>rfl
  |cons x xs ih=>rw[ee2,<-ih];rfl
 |c::B0,laid=>by
  show B0.foldl S3 (S3 laid c)=_;rw[bc9 B0];unfold S3;rw[List.flatMap_assoc];refine congrArg (fun f=>List.flatMap f laid) (funext fun t0=> ?_);show (c.map (B8 t0)).flatMap (fun t1=>(aa7 B0).map (B8 t1))=(c.flatMap fun es=>(aa7 B0).map fun e=>es++e).map (B8 t0);rw[List.flatMap_map,List.map_flatMap];refine congrArg (fun f=>List.flatMap f c) (funext fun es=> ?_);show (aa7 B0).map (B8 (B8 t0 es))=((aa7 B0).map fun e=>es++e).map (B8 t0);rw[ee4]
  exact ef3 fun e _=>(cl5 t0 es e).symm
theorem bk1:∀{B0:List (List (List (Int×Int)))} {e:List (Int×Int)},e∈aa7 B0->∃ess,Pkd ess B0/\e=ess.flatten
 |[],e,h=>⟨[],.nil,ea1.mp h⟩
 |c::B0,e,h=>by
  obtain ⟨es,hes,z⟩:=ef4.mp h;obtain ⟨e',he',rfl⟩:=ea2.mp z;obtain ⟨ess,pk,rfl⟩:=bk1 he';exact ⟨es::ess,.cons hes pk,rfl⟩
theorem bk2 {t:List Int}{f:Nat->List (List (Int×Int))}:∀{ks:List Nat},(∀k∈ks,(f k).countP (U8 t)=1)->(aa7 (ks.map f)).countP (U8 t)=1
 |[],_=>rfl
 |k::ks,h=>by
  show ((f k).flatMap fun es=>(aa7 (ks.map f)).map fun e=>es++e).countP (U8 t)=1;rw[ae9 (g:=U8 t),h k dz7];intro es hes;rw[en3]
  by_cases c:U8 t es=true
  · rw[if_pos c];refine Eq.trans (en7 fun e _=> ?_) (bk2 fun k hk=>h k (ea0 _ hk));show U8 t (es++e)=true↔_;rw[bn5,c,Bool.true_and]
  · rw[if_neg c,ej7];intro e _ z;have z:U8 t (es++e)=true:=z;rw[bn5,ef1] at z;exact c z.1
theorem da0 {p t:List Int}{m l:Nat}(tp:y7 p)(tt:y7 t)(pw:D0 t (m:Int) p){u:Int}(hu:In p u)(h:K7 p u l):K7 p (nx t u) l:=by
 have pt:p.length=t.length:=pw.1
 have tr:∀y,In p y->In t y:=fun y hy=>⟨hy.1,by rw[<-pt];exact hy.2⟩
 have com:∀i,it p i (nx t u)=nx t (it p i u):=fun i=>by
   rw[bb6 tt pw (cj7 tt (tr u hu)),bb6 tt pw (tr u hu)];show it t (m*i) (it t 1 u)=it t (m*i+1) u;rw[<-J2]
 refine ⟨h.pos,by rw[com,h.back],fun i i0 i1 e=> ?_⟩;rw[com] at e;exact h.least i i0 i1 (bh6 tt (tr _ (P0 tp hu i)) (tr u hu) e)
theorem do4 {p t:List Int}{m k:Nat}(tp:y7 p)(lp:p.length<=40)(tt:y7 t)(pw:D0 t (m:Int) p)(m1:1<=m)(k0:0 < k){rs:List (List Int)}(up:I0 p p.length rs):(chF rs m k).countP (U8 t)=1:=by
 have pt:p.length=t.length:=pw.1
 have fr:∀r∈K9 rs k,Rg p k r:=fun r hr=>by
   have:=bn4 up (M8 hr).1;rw[(M8 hr).2] at this;exact this
 have fl:=aa5 tp up
 have e1:=V8 (l:=k) (rs:=K9 rs k) fun r hr=>(M8 hr).2
 have e2:=(U1 rs k).length_le;have k3:(K9 rs k).length<=40:=ea4 (ed5 _ k0) (by rw[<-e1];omega);unfold chF;rw[en3]
 refine cb0 tp tt pw m1 k0 40 k3 (by rw[ba5];exact dz3 _) fr ((U1 rs k).nodup up.nd) fun u hu=> ?_
 obtain ⟨r,hr,hur⟩:=ec9.mp hu;obtain ⟨a,b,_⟩:=ap5 tp (fr r hr) hur;have hn:=da0 tp tt pw a b
 have hin:In p (nx t u):=by
   have:=cj7 tt (x:=u) ⟨a.1,by rw[<-pt];exact a.2⟩;exact ⟨this.1,by rw[pt];exact this.2⟩
 obtain ⟨r2,hr2,h2⟩:=ec9.mp (up.all _ hin.1 hin.2);have e:=(ap5 tp (bn4 up hr2) h2).2.1.uniq hn;exact ec9.mpr ⟨r2,by unfold K9;exact ef2.mpr ⟨hr2,decide_eq_true e⟩,h2⟩
theorem cb1 {p t:List Int}{m:Nat}(tp:y7 p)(lp:p.length<=40)(tt:y7 t)(pw:D0 t (m:Int) p)(m1:1<=m){ks:List Nat}(nk:ks.Nodup)(h1:∀k∈ks,∃r∈q9 p p.length,r.length=k)(h2:∀r∈q9 p p.length,r.length∈ks):(S4 p (ks.map (chF (q9 p p.length) m))).countP (fun u=>decide (u=t))=1:=by
 have up:=ah7 tp;generalize q9 p p.length=rs at up h1 h2 ⊢;have pt:p.length=t.length:=pw.1
 have k0:∀k∈ks,0 < k:=fun k hk=>by
   obtain ⟨r,hr,e⟩:=h1 k hk;have:=(rsb tp up r hr).1;omega
 unfold S4;rw[bc9,ee2,ek5,eb8,en3];refine Eq.trans (en7 fun es hes=> ?_) (bk2 (t:=t) fun k hk=>do4 tp lp tt pw m1 (k0 k hk) up);show decide (B8 p es=t)=true↔U8 t es=true;obtain ⟨ess,pk,rfl⟩:=bk1 hes
 obtain ⟨knd,kin,kall⟩:=bf9 (p:=p) ks nk (fun k hk es hes=>by
   obtain ⟨w,o⟩:=bt9 tp lp up m1 (k0 k hk) hes
   exact ⟨o.nd,o.keys⟩) pk
 have put:=az1 ess.flatten p knd fun e he=>(kin e.1 (ea2.mpr ⟨e,he,rfl⟩)).1
 rw[decide_eq_true_iff,bn6];constructor
 · intro e x hx;have a:=put x hx;have b:=(kin x.1 (ea2.mpr ⟨x,hx,rfl⟩)).1;rw[e,ao2 ⟨b.1,by rw[<-pt];exact b.2⟩] at a;exact Option.some.inj a
 · intro ok
   refine ed7 fun i=> ?_
   by_cases hi:i < p.length
   · have hx:In p (i:Int):=⟨by omega,by omega⟩;obtain ⟨r0,hr0,hxr⟩:=ec9.mp (up.all _ hx.1 hx.2);obtain ⟨es,hes,hef⟩:=kall r0.length (h2 r0 hr0);have k1:=k0 _ (h2 r0 hr0);obtain ⟨w,o⟩:=bt9 tp lp up m1 k1 hef;have xf:(i:Int)∈(K9 rs r0.length).flatten:=ec9.mpr ⟨r0,by unfold K9;exact ef2.mpr ⟨hr0,decide_eq_true rfl⟩,hxr⟩;obtain ⟨cf,hcf,hxc⟩:=ec9.mp (o.perm.mem_iff.mpr xf);obtain ⟨c,hc,rfl⟩:=ea2.mp hcf
     have rows:∀r∈c,r.length=r0.length:=fun r hr=>ae8 (o.rg c hc r hr)
     obtain ⟨kk,e1,e2,js⟩:=bf8 k1 m1 (o.right c hc) rows;have xJ:=(js.perm k1 e2).mem_iff.mpr hxc;rw[<-au4 (J5 r0.length m c)] at xJ;obtain ⟨e,he,ex⟩:=ea2.mp xJ;have hef:e∈ess.flatten:=ec9.mpr ⟨es,hes,by rw[o.eq];exact ef4.mpr ⟨c,hc,he⟩⟩;have a:=put e hef;have b:=ao2 (p:=t) (x:=(i:Int)) ⟨hx.1,by rw[<-pt];exact hx.2⟩;have ok:=ok e hef;rw[ex] at a ok;rw[<-ok,<-b] at a;unfold G1 at a;rw[ee0] at a;exact a
   · rw[ea5 (by rw[au5];omega),ea5 (by omega)]
theorem az3:∀{ts:List (List Int)},(∀t∈ts,ts.countP (fun u=>decide (u=t))=1)->ts.Nodup
 |[],_=>ef6
 |x::xs,h=>by
  have h0:=h x dz7;rw[ej0,if_pos (decide_eq_true rfl)] at h0
  have nx:x∉xs:=fun z=>by
    have:xs.countP (fun u=>decide (u=x))=0:=by omega
    exact ej7.mp this x z (decide_eq_true rfl)
  refine ed6.mpr ⟨nx,az3 fun t ht=> ?_⟩;have h1:=h t (ea0 _ ht);rw[ej0,if_neg (fun e=>nx (by rw[of_decide_eq_true e];exact ht))] at h1;exact h1
theorem da1 {p:List Int}(m:Nat)(tp:y7 p)(lp:p.length<=40):∃ks:List Nat,ks.Nodup/\(∀k∈ks,∃r∈q9 p p.length,r.length=k)/\(∀r∈q9 p p.length,r.length∈ks)/\(S4 p (ks.map (chF (q9 p p.length) m))).length=w9 p m:=by
 have up:=ah7 tp
 have ks:∃ks:List Nat,ks.Nodup/\(∀k∈ks,∃r∈q9 p p.length,r.length=k)/\(∀r∈q9 p p.length,r.length∈ks):=by
   refine ⟨(ed0 (p.length+1)).filter fun k=>(q9 p p.length).any fun r=>decide (r.length=k),List.Nodup.sublist eo8 eq0,fun k hk=> ?_,fun r hr=> ?_⟩
   · obtain ⟨r,hr,e⟩:=ep9.mp (ef2.mp hk).2;exact ⟨r,hr,of_decide_eq_true e⟩
   · exact ef2.mpr ⟨ed1.mpr (by have:=(rsb tp up r hr).2;omega),ep9.mpr ⟨r,hr,decide_eq_true rfl⟩⟩
 obtain ⟨ks,nk,h1,h2⟩:=ks;refine ⟨ks,nk,h1,h2,?_⟩
 have len:=ak8 p (chF (q9 p p.length) m) (fun l=>E2 l m (w6 (q9 p p.length) l)) ks.length ks (dz3 _) fun k hk=>by
   refine ch3 ?_;obtain ⟨r,hr,e⟩:=h1 k hk;have k1:=(rsb tp up r hr).1;have fl:=aa5 tp up
   have e1:=V8 (l:=k) (rs:=K9 (q9 p p.length) k) fun r hr=>(M8 hr).2
   have e2:=(U1 (q9 p p.length) k).length_le;exact ea4 (ed5 _ (show 0 < k by omega)) (by rw[<-e1];omega)
 rw[ak5 tp up nk h1 h2 fun u hu=>by rw[hu];rfl] at len;exact len
theorem dh6 {p:List Int}{m:Nat}(tp:y7 p)(lp:p.length<=40)(m1:1<=m):0 < w9 p m↔∃t,y7 t/\D0 t (m:Int) p:=by
 obtain ⟨ks,nk,h1,h2,len⟩:=da1 m tp lp;constructor
 · intro h;rw[<-len] at h;obtain ⟨t,ht⟩:=List.exists_mem_of_length_pos h;exact ⟨t,br4 tp lp m1 nk h1 h2 ht⟩
 · rintro ⟨t,tt,pw⟩;have one:=cb1 tp lp tt pw m1 nk h1 h2;rw[<-len];have:=eq2 (p:=fun u=>decide (u=t)) (l:=S4 p (ks.map (chF (q9 p p.length) m)));omega
theorem R5.once {p t:List Int}{m:Nat}{ts:List (List Int)}(h:R5 p m ts)(tp:y7 p)(lp:p.length<=40)(m1:1<=m)(tt:y7 t)(pw:D0 t (m:Int) p):ts.countP (fun u=>decide (u=t))=1:=by
 rcases h.src with z|⟨ks,nk,h1,h2,pr⟩
 · have:=(dh6 tp lp m1).mpr ⟨t,tt,pw⟩;omega
 · rw[pr.countP_eq];exact cb1 tp lp tt pw m1 nk h1 h2
theorem R5.mem {p t:List Int}{m:Nat}{ts:List (List Int)}(h:R5 p m ts)(tp:y7 p)(lp:p.length<=40)(m1:1<=m):t∈ts↔y7 t/\D0 t (m:Int) p:=by
 refine ⟨h.root tp lp m1 t,fun ⟨tt,pw⟩=> ?_⟩;have:=h.once tp lp m1 tt pw;obtain ⟨u,hu,e⟩:=List.countP_pos_iff.mp (show 0 < ts.countP (fun u=>decide (u=t)) by omega);rw[<-of_decide_eq_true e];exact hu
theorem R5.nd {p:List Int}{m:Nat}{ts:List (List Int)}(h:R5 p m ts)(tp:y7 p)(lp:p.length<=40)(m1:1<=m):ts.Nodup:=
 az3 fun t ht=>have:=h.root tp lp m1 t ht;h.once tp lp m1 this.1 this.2
end
end My
namespace My
local macro_rules|`(tactic|omega)=>`(tactic|lia)
open PySem L2 Mth PySem.Spec PyProof.Rows
section
def do5 (K:PySem.W.Frag)(neg:Bool):R2:=fun x y H Q=>∃(p r:Addr) (bs:List Addr) (ts:List (List Int)) (q:List Int),x= .ref r/\y= .ref p/\h8 K H p (bs.map V.ref)/\o3 H bs ts/\H r=some (.lst (q.map V.int))/\Q (.bl (if neg then !decide (q∈ts) else decide (q∈ts))) H
open Classical in
noncomputable def eqR (H:Hp)(q:List Int)(y:Value):Bool:=decide (∃b,y= .ref b/\H b=some (.lst (q.map V.int)))
theorem ap7 {H:Hp}{q row:List Int}{b:Addr}(hb:H b=some (.lst (row.map V.int))):eqR H q (.ref b)=decide (row=q):=by
 unfold eqR
 by_cases c:row=q
 · rw[decide_eq_true c];exact @decide_eq_true _ (Classical.propDecidable _) ⟨b,rfl,by rw[<-c];exact hb⟩
 · rw[decide_eq_false c]
   refine @decide_eq_false _ (Classical.propDecidable _) fun ⟨b',e,h⟩=> ?_
   cases e;rw[hb] at h
   injection h with h
   injection h with h
   exact c (bc6 h)
theorem ae2 {bs:List Addr}:∀{its:List Value},m7 (bs.map V.ref) its->its=bs.map Value.ref:=by
 induction bs with
 |nil=>intro its h;cases h;rfl
 |cons b bs ih=>
  intro its h
  cases h with
  |cons r t=>
   cases r;rw[ih t];rfl
theorem bg1 {H:Hp}{q:List Int}:∀{bs:List Addr} {ts:List (List Int)},o3 H bs ts->(bs.map Value.ref).any (eqR H q)=decide (q∈ts)
 |[],[],_=>rfl
 |[],t::ts,h=>by have:=h.1;simp at this
 |b::bs,[],h=>by have:=h.1;simp at this
 |b::bs,t::ts,h=>by
  have h0:=h.2 0 b t rfl rfl;have ht:o3 H bs ts:=⟨by have:=h.1;simpa using this,fun j a r e1 e2=>h.2 (j+1) a r e1 e2⟩;rw[ed3,eo4,bg1 ht,ap7 h0,el8,eq4,decide_eq_true_iff,decide_eq_true_iff,decide_eq_true_iff,ea8];exact ⟨fun z=>z.elim (fun e=> .inl e.symm) .inr,fun z=>z.elim (fun e=> .inl e.symm) .inr⟩
theorem br6 {X:Cx}(hu0:X.A.units+1+1 < cLine):P1 X (compareOp .NotIn) (do5 X.K true):=by
 have hu:X.A.in1.units+0+1 < cLine:=by rw[Around.in1_units];exact hu0
 intro pins s σ H x y v u Q I rx ry h;obtain ⟨p,r,bs,ts,q,rfl,rfl,hq,rows,hr,k⟩:=h;cases rx;cases ry;obtain ⟨its,rr,pl,hz⟩:=I.list hq;have ei:=ae2 rr;refine SeqAt.notIn_listAt (eqR H q) pl.isList (fun w hw=> ?_) ⟨.bl _,H,I,rfl,?_⟩
 · have hw:w∈its:=by simpa using hw
   rw[ei] at hw;obtain ⟨b,hb,rfl⟩:=ea2.mp hw;obtain ⟨j,hj⟩:=ec1.mp hb;have jl:=(dz2.mp hj).1;have h1:=rows.2 j b _ hj (dz1 (by rw[<-rows.1];exact jl))
   by_cases e:b=r
   · subst e;rw[ap7 hr,decide_eq_true rfl];exact SeqAt.EqAt.same _
   · rw[ap7 h1];exact SeqAt.EqAt.of_refs e (bw2 (n:=0) I hu (h8.of h1) (h8.of hr) (M7 _ _ _ _ _))
 · rw[show its.toArray.any (eqR H q)=its.any (eqR H q) by simp,ei,bg1 rows];exact k
theorem do6 {X:Cx}(hu0:X.A.units+1+1 < cLine):P1 X (compareOp .In) (do5 X.K false):=by
 have hu:X.A.in1.units+0+1 < cLine:=by rw[Around.in1_units];exact hu0
 intro pins s σ H x y v u Q I rx ry h;obtain ⟨p,r,bs,ts,q,rfl,rfl,hq,rows,hr,k⟩:=h;cases rx;cases ry;obtain ⟨its,rr,pl,hz⟩:=I.list hq;have ei:=ae2 rr;refine SeqAt.in_listAt (eqR H q) pl.isList (fun w hw=> ?_) ⟨.bl _,H,I,rfl,?_⟩
 · have hw:w∈its:=by simpa using hw
   rw[ei] at hw;obtain ⟨b,hb,rfl⟩:=ea2.mp hw;obtain ⟨j,hj⟩:=ec1.mp hb;have jl:=(dz2.mp hj).1;have h1:=rows.2 j b _ hj (dz1 (by rw[<-rows.1];exact jl))
   by_cases e:b=r
   · subst e;rw[ap7 hr,decide_eq_true rfl];exact SeqAt.EqAt.same _
   · rw[ap7 h1];exact SeqAt.EqAt.of_refs e (bw2 (n:=0) I hu (h8.of h1) (h8.of hr) (M7 _ _ _ _ _))
 · rw[show its.toArray.any (eqR H q)=its.any (eqR H q) by simp,ei,bg1 rows];exact k
end
end My
namespace L2
local macro_rules|`(tactic|omega)=>`(tactic|lia)
open PySem PySem.Spec PyProof.Rows
section
variable {X:Cx}
def ch8:V->List V->Hp->VK->Prop:=fun x vs H Q=>∃(l b:Addr) (as:List Addr) (rs:List (List Int)) (r:List Int) (j:Nat),x= .ref l/\vs=[.ref b]/\H l=some (.lst (as.map V.ref))/\o3 H as rs/\H b=some (.lst (r.map V.int))/\rs[j]? =some r/\(∀i,i < j->rs[i]? ≠some r)/\rs.length<=100000/\Q (.int (j:Int)) H
theorem cu1 (hu:X.A.units+2+1 < cLine):MtM X "list.index" ch8:=by
 intro pins s σ H x vs v us Q I rx rv h;obtain ⟨l,b,as,rs,r,j,rfl,rfl,hH,rows,hb,hj,hno,hz,q⟩:=h;cases rx
 cases rv with
 |cons rk rr=>
 rename_i u _;cases rr;cases rk;obtain ⟨z,its,n,rv,hl,e⟩:=I.lstM hH;have la:=rv.length;rw[dz0] at la;have lr:=rows.1;have hjl:j < rs.length:=(dz2.mp hj).1
 have at_:∀m (hm:m < its.length),bt5 H r its[m]=decide (rs[m]? =some r):=fun m hm=>by
   have ea:as[m]? =some (as[m]'(by omega)):=dz1 (by omega);have er:rs[m]? =some (rs[m]'(by omega)):=dz1 (by omega);obtain ⟨u1,z1,q1⟩:=rv.get (show (as.map V.ref)[m]? =some (.ref (as[m]'(by omega))) by rw[dz4,ea];rfl);rw[dz1 hm] at z1;rw[Option.some.inj z1];cases q1;show decide (U5 H _=r)=_;rw[ah6 (rows.2 m _ _ ea er),er];exact decide_eq_decide.mpr ⟨fun h=>by rw[h],fun h=>Option.some.inj h⟩
 refine call_meets F.slot_list_index ⟨_,e,rfl⟩ F.entry_list_index (F.args_list_index_2 _ _)
   (SeqAt.list_indexAt l its.toArray n none #[] (.ref b) (bt5 H r) j (by simp only[ea6];omega) (by omega) ?_ ?_) ⟨e,fun y hy=> ?_,?_⟩
 · show bt5 H r (its[j]'(by omega))=true;rw[at_ j (by omega),decide_eq_true hj]
 · intro m hm hmj
   have hm':m < its.length:=by simpa using hm
   show bt5 H r its[m]=false;rw[at_ m hm',decide_eq_false (hno m hmj)]
 · obtain ⟨k,hk⟩:=ec1.mp (show y∈its by simpa using hy);have hkl:k < its.length:=(dz2.mp hk).1;obtain ⟨a,ea⟩:∃a,as[k]? =some a:=⟨_,dz1 (by omega)⟩;have er:rs[k]? =some (rs[k]'(by omega)):=dz1 _;obtain ⟨u1,z1,q1⟩:=rv.get (show (as.map V.ref)[k]? =some (.ref a) by rw[dz4,ea];rfl);rw[hk] at z1;cases z1;cases q1;have ha:=rows.2 k a _ ea er;show SeqAt.EqAt _ s (.ref a) (.ref b) (decide (U5 H a=r));rw[ah6 ha]
   exact bw0 I (cx9 ha hb) (by have:X.A.in1.units=X.A.units+1:=by first|rfl|simp [Around.in1]
                               have:X.A.in1.in1.units=X.A.units+1+1:=by first|rfl|simp [Around.in1]
                               first|omega|(simp [Around.in1] at*;omega)) rfl rfl
 · exact ⟨.int j,H,I.tok _,⟨_,rfl⟩,q⟩
theorem br7 (K:PySem.W.Frag){o e:Expr}{to:TE}{t:TA}{apos pos:Pos}(hu:X.A.units+2+1 < cLine)(ho:PE X o to)(ha:PA X [e] t)(hK:X.K=K:=by rfl)
   (hbase:attributeBase o "index" X.env (eval o X.env)=eval o X.env:=by rfl)
   (hfew:((backTo pos (starEach [e] X.env)).all (fun x=> !x.1)&&(backToKw pos (keywordEach [] X.env)).all (fun x=>x.1.isSome)
     &&decide ([e].length+([]:List Keyword).length+(if ([]:List Keyword).isEmpty then 0 else 1) < 30))=true:=by rfl)
   (hline:(apos.endLine==pos.line)=true:=by rfl) (hs:starEach [e] X.env=(false,eval e X.env)::starEach [] X.env:=by rfl) (hplain:(backTo pos (starEach [] X.env)).any (·.1)=false:=by rfl):
   PE X (.Call (.Attribute o "index" apos) [e] [] pos) (tBM K "list" ch8 to t):=by
 subst hK;exact aq2 PySem.F.plainAttrs_list PySem.F.slot_list_index PySem.F.type_list_index (cu1 hu) ho ha hbase hfew hline hs hplain
end
end L2
namespace My
local macro_rules|`(tactic|omega)=>`(tactic|lia)
open PySem L2 Mth
section
variable {P:Program} {w:World} {K:PySem.W.Frag} {mg:Str->Option Value} {base:Heap}
def bk4:Sp:=fun vs H Q _=>∃(a:Addr) (p:List Int) (m k:Nat),vs=[.ref a,.int (m:Int),.int (k:Int)]/\C3 H a p/\1<=m/\w9 p m<=2000/\k < w9 p m/\∀(b:Addr) (t:List Int) (ts:List (List Int)) (H':Hp),H b=none->R5 p m ts->ts[k]? =some t->H' b=some (.lst (t.map V.int))->Kp H H'->Q (.ref b) H'
theorem ad6:m9 ["p","m","k","roots"] ["p","m","k"] (j7 ag0):=⟨rfl,rfl,rfl,by decide+kernel,rfl,by decide+kernel,by decide+kernel⟩
theorem bd0 {f:Addr}{fd:FuncData}(F:C7 K "nth_root" "nth_root" ag0 f fd)(B:Bl mg)(c_all_roots:n0 P w K mg base "all_roots" 44 ["p","m"] ae7)(c_is_whole:n0 P w K mg base "is_whole" 1 ["thing"] (ag6 K)):n6 P w K mg base E9 45 f fd ["p","m","k"] bk4:=by
 refine F.ok ad6 (fun vs H Q E h=> ?_) (fun cdv A outer s H vs Q E hr h=> ?_)
 · obtain ⟨a,p,m,k,rfl,tp,m1,few,hk,q⟩:=h;rfl
 · obtain ⟨a,p,m,k,rfl,tp,m1,few,hk,q⟩:=h;have hr_all_roots:l9 44 _:=hr.mono (by decide);have hr_is_whole:l9 1 _:=hr.mono (by decide);refine ⟨_,@c7 _ _ _ _ _ (@i4 _ _ (3) _ _ _ _ ad6.nd rfl (Or.inl rfl) (@i8 _ _ _ _ _ _ _ _ _ _ c_all_roots hr_all_roots (@c5 _ _ _ _ _ (pv 0) (@c5 _ _ _ _ _ (pv 1) (@c6 _) (by rfl)) (by rfl)) (by rfl) (by decide) (by rfl) (by rfl)) (by rfl) (by first|exact .inl rfl|exact .inr rfl|assumption)) (@c7 _ _ _ _ _ (@B5 _ _ _ _ _ _ _ _ (@Q4 _ _ _ _ _ _ _ (@U9 _ _ _ _ (@S6 _ _ _ (@i8 _ _ _ _ _ _ _ _ _ _ c_is_whole hr_is_whole (@c5 _ _ _ _ _ (pv 2) (@c6 _) (by rfl)) (by rfl) (by decide) (by rfl) (by rfl)) (by intro _;rfl))) (@Q4 _ _ _ _ _ _ _ (@j8 _ _ _ _ _ _ _ _ aj9 (pv 2) (@g9 _ _ _ _) (n5 _)) (@Z8 _ _ _ _ (@j8 _ _ _ _ _ _ _ _ bg5 (pv 2) (@x6 _ _ _ _ _ B.len (@c5 _ _ _ _ _ (pv 3) (@c6 _) (by rfl)) (by rfl) (by rfl)) (n5 _))))).pt (@g6 _ _ _ (@ab1 _ _)) (@o4 _)) (@g6 _ _ _ (@l8 _ _ _ _ (@J9 _ _ _ _ _ _ _ C5 (pv 3) (pv 2) (fun _ _=>rfl))))),?_⟩
   try dsimp only[x9,Cx.nox,Cx.wish]
   refine ⟨_,rfl,_,rfl,a,p,m,rfl,tp,m1,few,fun o bs ts H3 ho h3o rows all bnd bfr ob kp=> ?_⟩
   have lb:bs.length=w9 p m:=by rw[rows.1,all.len]
   refine ⟨_,rfl,.int (k:Int),_,true,false,rfl,.int (k:Int),Y4 K "int",V1 K,true,rfl,C0 ?_⟩;refine ⟨_,rfl,_,_,rfl,rfl,_,rfl,?_⟩;rw[decide_eq_false (show ¬(k:Int) < 0 by omega)];refine C0 ⟨_,rfl,_,rfl,o,_,rfl,.inl (h8.of h3o),_,_,rfl,rfl,_,rfl,?_⟩;rw[decide_eq_false (show ¬(((bs.map V.ref).length:Nat):Int)<=(k:Int) by rw[dz0];omega)];refine C0 ?_;have eb:bs[k]? =some (bs[k]'(by omega)):=dz1 (by omega)
   have lt:k < ts.length:=by rw[all.len];exact hk
   have et:ts[k]? =some (ts[k]'lt):=dz1 lt;refine ⟨_,rfl,_,rfl,o,_,_,_,rfl,rfl,h8.of h3o,G9 (j:=k) (by rw[dz4,eb];rfl),?_⟩;exact q _ _ ts H3 (bfr _ (ec6 _)) all et (rows.2 k _ _ eb et) kp
def bk5:Sp:=fun vs H Q _=>∃(a b:Addr) (p r:List Int) (m:Nat),vs=[.ref a,.int (m:Int),.ref b]/\C3 H a p/\C3 H b r/\p.length=r.length/\1<=m/\w9 p m<=2000/\D0 r (m:Int) p/\∀(j:Nat) (ts:List (List Int)) (H':Hp),R5 p m ts->ts[j]? =some r->Kp H H'->Q (.int (j:Int)) H'
theorem Q6:m9 ["p","m","r","roots"] ["p","m","r"] (j7 S1):=⟨rfl,rfl,rfl,by decide+kernel,rfl,by decide+kernel,by decide+kernel⟩
theorem af7 {f:Addr}{fd:FuncData}(F:C7 K "number_of_root" "number_of_root" S1 f fd)(c_must_be_turn:n0 P w K mg base "must_be_turn" 3 ["thing"] ay1)(c_must_be_from_one:n0 P w K mg base "must_be_from_one" 2 ["number"] bi9)(c_must_fit:n0 P w K mg base "must_fit" 1 ["p","q"] (bt7 K))(c_all_roots:n0 P w K mg base "all_roots" 44 ["p","m"] ae7):n6 P w K mg base E9 45 f fd ["p","m","r"] bk5:=by
 refine F.ok Q6 (fun vs H Q E h=> ?_) (fun cdv A outer s H vs Q E hr h=> ?_)
 · obtain ⟨a,b,p,r,m,rfl,tp,tr,el,m1,few,pw,q⟩:=h;rfl
 · obtain ⟨a,b,p,r,m,rfl,tp,tr,el,m1,few,pw,q⟩:=h;have hr_must_be_turn:l9 3 _:=hr.mono (by decide);have hr_must_be_from_one:l9 2 _:=hr.mono (by decide);have hr_must_fit:l9 1 _:=hr.mono (by decide);have hr_all_roots:l9 44 _:=hr.mono (by decide);have hu:=P9 hr;have hu2:_+1+1 < cLine:=eb5 (ej4 (by decide:2<=64) _) hr.units;have hu3:_+2+1 < cLine:=eb5 (ej4 (by decide:3<=64) _) hr.units;refine ⟨_,@c7 _ _ _ _ _ (@y6 _ _ _ _ (@i8 _ _ _ _ _ _ _ _ _ _ c_must_be_turn hr_must_be_turn (@c5 _ _ _ _ _ (pv 0) (@c6 _) (by rfl)) (by rfl) (by decide) (by rfl) (by rfl)) (by rfl)) (@c7 _ _ _ _ _ (@y6 _ _ _ _ (@i8 _ _ _ _ _ _ _ _ _ _ c_must_be_turn hr_must_be_turn (@c5 _ _ _ _ _ (pv 2) (@c6 _) (by rfl)) (by rfl) (by decide) (by rfl) (by rfl)) (by rfl)) (@c7 _ _ _ _ _ (@y6 _ _ _ _ (@i8 _ _ _ _ _ _ _ _ _ _ c_must_be_from_one hr_must_be_from_one (@c5 _ _ _ _ _ (pv 1) (@c6 _) (by rfl)) (by rfl) (by decide) (by rfl) (by rfl)) (by rfl)) (@c7 _ _ _ _ _ (@y6 _ _ _ _ (@i8 _ _ _ _ _ _ _ _ _ _ c_must_fit hr_must_fit (@c5 _ _ _ _ _ (pv 0) (@c5 _ _ _ _ _ (pv 2) (@c6 _) (by rfl)) (by rfl)) (by rfl) (by decide) (by rfl) (by rfl)) (by rfl)) (@c7 _ _ _ _ _ (@i4 _ _ (3) _ _ _ _ Q6.nd rfl (Or.inl rfl) (@i8 _ _ _ _ _ _ _ _ _ _ c_all_roots hr_all_roots (@c5 _ _ _ _ _ (pv 0) (@c5 _ _ _ _ _ (pv 1) (@c6 _) (by rfl)) (by rfl)) (by rfl) (by decide) (by rfl) (by rfl)) (by rfl) (by first|exact .inl rfl|exact .inr rfl|assumption)) (@c7 _ _ _ _ _ (@B5 _ _ _ _ _ _ _ _ (@j8 _ _ _ _ _ _ _ _ (br6 hu2) (pv 2) (pv 3) (by with_unfolding_all rfl)) (@g6 _ _ _ (@ab1 _ _)) (@o4 _)) (@g6 _ _ _ (@l8 _ _ _ _ (br7 K hu3 (pv 3) (@c5 _ _ _ _ _ (pv 2) (@c6 _) (by rfl)))))))))),?_⟩;refine ck8 ?_;intros
   try dsimp only[x9,Cx.nox,Cx.wish]
   refine ⟨_,rfl,a,p,rfl,tp,fun H1 s1=> ?_⟩;refine ⟨_,rfl,b,r,rfl,⟨s1 _ _ tr.1,tr.2⟩,fun H2 s2=> ?_⟩;have s02:=s1.trans s2;refine ⟨_,rfl,(m:Int),rfl,by omega,?_⟩;refine ⟨_,rfl,_,rfl,a,b,_,_,rfl,h8.of (s02 _ _ tp.1),h8.of (s02 _ _ tr.1),by rw[dz0,dz0];exact el,?_⟩;refine ⟨_,rfl,_,rfl,a,p,m,rfl,⟨s02 _ _ tp.1,tp.2⟩,m1,few,fun o bs ts H3 ho h3o rows all bnd bfr ob kp=> ?_⟩;have k03:Kp H H3:=(Kp.of s02).trans kp;have rin:r∈ts:=(all.mem tp.2.1 tp.2.2 m1).mpr ⟨tr.2.1,pw⟩;refine ⟨_,rfl,_,rfl,o,b,bs,ts,r,rfl,rfl,h8.of h3o,rows,k03.lst tr.1,_,rfl,?_⟩;rw[decide_eq_true rin];refine C0 ?_;obtain ⟨j,hj⟩:=ec1.mp rin;refine ⟨_,rfl,.inl ⟨rfl,_,h8.of h3o⟩,_,rfl,o,b,bs,ts,r,j,rfl,rfl,h3o,rows,k03.lst tr.1,hj,fun i hi e=> ?_,by rw[all.len];omega,q j ts H3 all hj k03⟩;have nd:=ea7.mp (all.nd tp.2.1 tp.2.2 m1);obtain ⟨j1,j2⟩:=dz2.mp hj;obtain ⟨i1,i2⟩:=dz2.mp e;exact eb7.mp nd i j i1 j1 hi (by rw[i2,j2])
end
end My
namespace My
local macro_rules|`(tactic|omega)=>`(tactic|lia)
open PySem L2 Mth
section
variable {P:Program} {w:World} {K:PySem.W.Frag} {mg:Str->Option Value} {base:Heap} {q_TurnError q_NoTurn q_NoFit q_NoRounds q_NoNumber q_NoRoot q_TooMany q_NoKind q_NoText q_NoName q_NoRow:Addr}
def cb2 (q:Addr):Sp:=fun vs H _ E=>∃(n:Int),vs=[.int n]/\2000 < n/\E (.ref q) none H
theorem bk6 {f:Addr}{fd:FuncData}(F:C7 K "must_be_few" "must_be_few" X8 f fd)(g_MOST_TOLD:∃t,mg "MOST_TOLD"=some (.int 2000 t))(e_TooMany:Err K mg "TooMany" q_TooMany):n6 P w K mg base (CX1 P w) 1 f fd ["many"] (cb2 q_TooMany):=by
 refine F.okx ap3 (fun vs H Q E h=> ?_) (fun cdv A outer s H vs Q E hr h=> ?_)
 · obtain ⟨n,rfl,hn,q⟩:=h;rfl
 · obtain ⟨n,rfl,hn,q⟩:=h;obtain ⟨_,m_MOST_TOLD⟩:=g_MOST_TOLD;refine ⟨_,@g6 _ _ _ (@B5 _ _ _ _ _ _ _ _ (@j8 _ _ _ _ _ _ _ _ aq0 (pv 0) (@O2 _ _ (.int 2000) _ _ (by rfl) m_MOST_TOLD ⟨_,rfl⟩ (by decide)) (n5 _)) (@g6 _ _ _ (@be0 _ _ _ _ _ _ _ _ _ ax4 rfl e_TooMany (@ad7 _ _ _ _) (by rfl) (by rfl) (by decide))) (@o4 _)),?_⟩
   try dsimp only[x9,Cx.nox,Cx.wish]
   refine ⟨_,rfl,_,_,rfl,rfl,_,rfl,?_⟩;rw[decide_eq_true hn];exact L9 q
def bk7 (qm:Addr):Sp:=fun vs H _ E=>∃(a:Addr) (p:List Int) (m:Nat),vs=[.ref a,.int (m:Int)]/\C3 H a p/\1<=m/\2000 < w9 p m/\∀H',e8 H H'->E (.ref qm) none H'
theorem bs8 {f:Addr}{fd:FuncData}(F:C7 K "all_roots" "all_roots" ad4 f fd)(c_how_many_roots:n0 P w K mg base "how_many_roots" 4 ["p","m"] aj1)(c_must_be_few:ac0 P w K mg base "must_be_few" 1 ["many"] (fun vs H Q E=>ay9 vs H Q E\/(cb2 q_TooMany) vs H Q E)):n6 P w K mg base (CX1 P w) 44 f fd ["p","m"] (bk7 q_TooMany):=by
 refine F.okx N4 (fun vs H Q E h=> ?_) (fun cdv A outer s H vs Q E hr h=> ?_)
 · obtain ⟨a,p,m,rfl,tp,m1,big,k⟩:=h;rfl
 · obtain ⟨a,p,m,rfl,tp,m1,big,k⟩:=h;have hr_how_many_roots:l9 4 _:=hr.mono (by decide);have hr_must_be_few:l9 1 _:=hr.mono (by decide);refine ⟨_,@c7 _ _ _ _ _ (@i4 _ _ (2) _ _ _ _ N4.nd rfl (Or.inl rfl) (@i8 _ _ _ _ _ _ _ _ _ _ c_how_many_roots hr_how_many_roots (@c5 _ _ _ _ _ (pv 0) (@c5 _ _ _ _ _ (pv 1) (@c6 _) (by rfl)) (by rfl)) (by rfl) (by decide) (by rfl) (by rfl)) (by rfl) (by first|exact .inl rfl|exact .inr rfl|assumption)) (@c7 _ _ _ _ _ (@y6 _ _ _ _ (@bl4 _ _ _ _ _ _ _ _ _ _ _ c_must_be_few hr_must_be_few (@ax5 _ _ _ _ _ _ _ _ _ _ _ _ _ _ _ _ fun _ _ _ h=>h) (@c5 _ _ _ _ _ (pv 2) (@c6 _) (by rfl)) (by rfl) (by decide) (by rfl) (by rfl)) (by rfl)) (@av6 _ _)),?_⟩
   try dsimp only[x9,Cx.nox,Cx.wish]
   refine ⟨_,rfl,_,rfl,a,p,m,rfl,tp,m1,fun H1 s1=> ?_⟩;exact ⟨_,rfl,.inr ⟨_,rfl,by omega,k H1 s1⟩⟩
def cb3 (qn qm:Addr):Sp:=fun vs H _ E=>∃(a:Addr) (p:List Int) (m:Nat) (k:Int),vs=[.ref a,.int (m:Int),.int k]/\C3 H a p/\1<=m/\((2000 < w9 p m/\∀H',e8 H H'->E (.ref qm) none H')\/(w9 p m<=2000/\(k < 0\/(w9 p m:Int)<=k)/\∀H',Kp H H'->E (.ref qn) none H'))
theorem cb4 {f:Addr}{fd:FuncData}(F:C7 K "nth_root" "nth_root" ag0 f fd)(B:Bl mg)(c_all_roots:ac0 P w K mg base "all_roots" 44 ["p","m"] (fun vs H Q E=>ae7 vs H Q E\/(bk7 q_TooMany) vs H Q E))(c_is_whole:n0 P w K mg base "is_whole" 1 ["thing"] (ag6 K))(e_NoNumber:Err K mg "NoNumber" q_NoNumber):n6 P w K mg base (CX1 P w) 45 f fd ["p","m","k"] (cb3 q_NoNumber q_TooMany):=by
 refine F.okx ad6 (fun vs H Q E h=> ?_) (fun cdv A outer s H vs Q E hr h=> ?_)
 · obtain ⟨a,p,m,k,rfl,tp,m1,h⟩:=h;rfl
 · obtain ⟨a,p,m,k,rfl,tp,m1,h⟩:=h;have hr_all_roots:l9 44 _:=hr.mono (by decide);have hr_is_whole:l9 1 _:=hr.mono (by decide);refine ⟨_,@c7 _ _ _ _ _ (@i4 _ _ (3) _ _ _ _ ad6.nd rfl (Or.inl rfl) (@bl4 _ _ _ _ _ _ _ _ _ _ _ c_all_roots hr_all_roots (@ax5 _ _ _ _ _ _ _ _ _ _ _ _ _ _ _ _ fun _ _ _ h=>h) (@c5 _ _ _ _ _ (pv 0) (@c5 _ _ _ _ _ (pv 1) (@c6 _) (by rfl)) (by rfl)) (by rfl) (by decide) (by rfl) (by rfl)) (by rfl) (by first|exact .inl rfl|exact .inr rfl|assumption)) (@c7 _ _ _ _ _ (@B5 _ _ _ _ _ _ _ _ (@Q4 _ _ _ _ _ _ _ (@U9 _ _ _ _ (@S6 _ _ _ (@i8 _ _ _ _ _ _ _ _ _ _ c_is_whole hr_is_whole (@c5 _ _ _ _ _ (pv 2) (@c6 _) (by rfl)) (by rfl) (by decide) (by rfl) (by rfl)) (by intro _;rfl))) (@Q4 _ _ _ _ _ _ _ (@j8 _ _ _ _ _ _ _ _ aj9 (pv 2) (@g9 _ _ _ _) (n5 _)) (@Z8 _ _ _ _ (@j8 _ _ _ _ _ _ _ _ bg5 (pv 2) (@x6 _ _ _ _ _ B.len (@c5 _ _ _ _ _ (pv 3) (@c6 _) (by rfl)) (by rfl) (by rfl)) (n5 _))))).pt (@g6 _ _ _ (@be0 _ _ _ _ _ _ _ _ _ ax4 rfl e_NoNumber (@ad7 _ _ _ _) (by rfl) (by rfl) (by decide))) (@o4 _)) (@av6 _ _)),?_⟩
   try dsimp only[x9,Cx.nox,Cx.wish]
   rcases h with ⟨big,q⟩|⟨few,hk,q⟩
   · exact ⟨_,rfl,_,rfl,.inr ⟨a,p,m,rfl,tp,m1,big,q⟩⟩
   refine ⟨_,rfl,_,rfl,.inl ⟨a,p,m,rfl,tp,m1,few,fun o bs ts H3 ho h3o rows all bnd bfr ob kp=> ?_⟩⟩;refine ⟨_,rfl,.int k,_,true,false,rfl,.int k,Y4 K "int",V1 K,true,rfl,C0 ?_⟩;refine ⟨_,rfl,_,_,rfl,rfl,_,rfl,?_⟩
   by_cases c:k < 0
   · rw[decide_eq_true c];exact L9 (L9 (q H3 kp))
   · rw[decide_eq_false c];refine C0 ⟨_,rfl,_,rfl,o,_,rfl,.inl (h8.of h3o),_,_,rfl,rfl,_,rfl,?_⟩
     have e:((bs.map V.ref).length:Int)<=k:=by
       rw[dz0,rows.1,all.len];omega
     rw[decide_eq_true e];exact L9 (q H3 kp)
def cb5 (qm qr:Addr):Sp:=fun vs H _ E=>∃(a b:Addr) (p r:List Int) (m:Nat),vs=[.ref a,.int (m:Int),.ref b]/\C3 H a p/\C3 H b r/\p.length=r.length/\1<=m/\((2000 < w9 p m/\∀H',e8 H H'->E (.ref qm) none H')\/(w9 p m<=2000/\¬D0 r (m:Int) p/\∀H',Kp H H'->E (.ref qr) none H'))
theorem az4 {f:Addr}{fd:FuncData}(F:C7 K "number_of_root" "number_of_root" S1 f fd)(c_must_be_turn:n0 P w K mg base "must_be_turn" 3 ["thing"] ay1)(c_must_be_from_one:n0 P w K mg base "must_be_from_one" 2 ["number"] bi9)(c_must_fit:n0 P w K mg base "must_fit" 1 ["p","q"] (bt7 K))(c_all_roots:ac0 P w K mg base "all_roots" 44 ["p","m"] (fun vs H Q E=>ae7 vs H Q E\/(bk7 q_TooMany) vs H Q E))(e_NoRoot:Err K mg "NoRoot" q_NoRoot):n6 P w K mg base (CX1 P w) 45 f fd ["p","m","r"] (cb5 q_TooMany q_NoRoot):=by
 refine F.okx Q6 (fun vs H Q E h=> ?_) (fun cdv A outer s H vs Q E hr h=> ?_)
 · obtain ⟨a,b,p,r,m,rfl,tp,tr,el,m1,h⟩:=h;rfl
 · obtain ⟨a,b,p,r,m,rfl,tp,tr,el,m1,h⟩:=h;have hr_must_be_turn:l9 3 _:=hr.mono (by decide);have hr_must_be_from_one:l9 2 _:=hr.mono (by decide);have hr_must_fit:l9 1 _:=hr.mono (by decide);have hr_all_roots:l9 44 _:=hr.mono (by decide);have hu:=P9 hr;have hu2:_+1+1 < cLine:=eb5 (ej4 (by decide:2<=64) _) hr.units;refine ⟨_,@c7 _ _ _ _ _ (@y6 _ _ _ _ (@i8 _ _ _ _ _ _ _ _ _ _ c_must_be_turn hr_must_be_turn (@c5 _ _ _ _ _ (pv 0) (@c6 _) (by rfl)) (by rfl) (by decide) (by rfl) (by rfl)) (by rfl)) (@c7 _ _ _ _ _ (@y6 _ _ _ _ (@i8 _ _ _ _ _ _ _ _ _ _ c_must_be_turn hr_must_be_turn (@c5 _ _ _ _ _ (pv 2) (@c6 _) (by rfl)) (by rfl) (by decide) (by rfl) (by rfl)) (by rfl)) (@c7 _ _ _ _ _ (@y6 _ _ _ _ (@i8 _ _ _ _ _ _ _ _ _ _ c_must_be_from_one hr_must_be_from_one (@c5 _ _ _ _ _ (pv 1) (@c6 _) (by rfl)) (by rfl) (by decide) (by rfl) (by rfl)) (by rfl)) (@c7 _ _ _ _ _ (@y6 _ _ _ _ (@i8 _ _ _ _ _ _ _ _ _ _ c_must_fit hr_must_fit (@c5 _ _ _ _ _ (pv 0) (@c5 _ _ _ _ _ (pv 2) (@c6 _) (by rfl)) (by rfl)) (by rfl) (by decide) (by rfl) (by rfl)) (by rfl)) (@c7 _ _ _ _ _ (@i4 _ _ (3) _ _ _ _ Q6.nd rfl (Or.inl rfl) (@bl4 _ _ _ _ _ _ _ _ _ _ _ c_all_roots hr_all_roots (@ax5 _ _ _ _ _ _ _ _ _ _ _ _ _ _ _ _ fun _ _ _ h=>h) (@c5 _ _ _ _ _ (pv 0) (@c5 _ _ _ _ _ (pv 1) (@c6 _) (by rfl)) (by rfl)) (by rfl) (by decide) (by rfl) (by rfl)) (by rfl) (by first|exact .inl rfl|exact .inr rfl|assumption)) (@c7 _ _ _ _ _ (@B5 _ _ _ _ _ _ _ _ (@j8 _ _ _ _ _ _ _ _ (br6 hu2) (pv 2) (pv 3) (by with_unfolding_all rfl)) (@g6 _ _ _ (@be0 _ _ _ _ _ _ _ _ _ ax4 rfl e_NoRoot (@ad7 _ _ _ _) (by rfl) (by rfl) (by decide))) (@o4 _)) (@av6 _ _)))))),?_⟩
   try dsimp only[x9,Cx.nox,Cx.wish]
   refine ⟨_,rfl,a,p,rfl,tp,fun H1 s1=> ?_⟩;refine ⟨_,rfl,b,r,rfl,⟨s1 _ _ tr.1,tr.2⟩,fun H2 s2=> ?_⟩;have s02:=s1.trans s2;refine ⟨_,rfl,(m:Int),rfl,by omega,?_⟩;refine ⟨_,rfl,_,rfl,a,b,_,_,rfl,h8.of (s02 _ _ tp.1),h8.of (s02 _ _ tr.1),by rw[dz0,dz0];exact el,?_⟩
   rcases h with ⟨big,k⟩|⟨few,nr,k⟩
   · exact ⟨_,rfl,_,rfl,.inr ⟨a,p,m,rfl,⟨s02 _ _ tp.1,tp.2⟩,m1,big,fun H3 s3=>k H3 (s02.trans s3)⟩⟩
   · refine ⟨_,rfl,_,rfl,.inl ⟨a,p,m,rfl,⟨s02 _ _ tp.1,tp.2⟩,m1,few,fun o bs ts H3 ho h3o rows all bnd bfr ob kp=> ?_⟩⟩;have k03:Kp H H3:=(Kp.of s02).trans kp;refine ⟨_,rfl,_,rfl,o,b,bs,ts,r,rfl,rfl,h8.of h3o,rows,k03.lst tr.1,_,rfl,?_⟩
     have nm:r∉ts:=fun z=>nr (all.root tp.2.1 tp.2.2 m1 r z).2
     rw[decide_eq_false nm];exact L9 (k H3 k03)
def bb7:Sp:=fun vs H Q _=>∃(a:Addr) (p:List Int) (m:Nat) (k:Int),vs=[.ref a,.int (m:Int),.int k]/\C3 H a p/\1<=m/\((2000 < w9 p m/\∀H',e8 H H'->Q (.str "TooMany") H')\/(w9 p m<=2000/\(k < 0\/(w9 p m:Int)<=k)/\∀H',Kp H H'->Q (.str "NoNumber") H')\/
 (w9 p m<=2000/\∃j:Nat,k=(j:Int)/\j < w9 p m/\∀(b:Addr) (t:List Int) (ts:List (List Int)) (H':Hp),H b=none->R5 p m ts->ts[j]? =some t->H' b=some (.lst (t.map V.int))->Kp H H'->Q (.ref b) H'))
theorem W7:m9 ["p","m","k","found","caught","e"] ["p","m","k"] (j7 ay0):=⟨rfl,rfl,rfl,by decide+kernel,rfl,by decide+kernel,by decide+kernel⟩
theorem cl6 {f:Addr}{fd:FuncData}(F:C7 K "_law_nth" "_law_nth" ay0 f fd)(c_nth_root:ac0 P w K mg base "nth_root" 45 ["p","m","k"] (fun vs H Q E=>bk4 vs H Q E\/(cb3 q_NoNumber q_TooMany) vs H Q E))(c_law_word:n0 P w K mg base "_law_word" 1 ["caught"] (bj3 q_NoTurn q_NoFit q_NoRounds q_NoNumber q_NoRoot q_TooMany q_NoKind q_NoText q_NoName q_NoRow))(ER:ax6 K mg q_TurnError [("NoTurn",q_NoTurn),("NoFit",q_NoFit),("NoRounds",q_NoRounds),("NoNumber",q_NoNumber),("NoRoot",q_NoRoot),("TooMany",q_TooMany),("NoKind",q_NoKind),("NoText",q_NoText),("NoName",q_NoName),("NoRow",q_NoRow)]):n6 P w K mg base E9 46 f fd ["p","m","k"] bb7:=by
 refine F.ok W7 (fun vs H Q E h=> ?_) (fun cdv A outer s H vs Q E hr h=> ?_)
 · obtain ⟨a,p,m,k,rfl,tp,m1,h⟩:=h;rfl
 · obtain ⟨a,p,m,k,rfl,tp,m1,h⟩:=h;have hr_nth_root:l9 45 _:=hr.mono (by decide);have hr_law_word:l9 1 _:=hr.mono (by decide);refine ⟨_,@c7 _ _ _ _ _ (@i4 _ _ (3) _ _ _ _ W7.nd rfl (Or.inl rfl) (@am8 _ _ _) (by rfl) (by first|exact .inl rfl|exact .inr rfl|assumption)) (@c7 _ _ _ _ _ (@i4 _ _ (4) _ _ _ _ W7.nd rfl (Or.inl rfl) (@am8 _ _ _) (by rfl) (by first|exact .inl rfl|exact .inr rfl|assumption)) (@c7 _ _ _ _ _ (@cq5 _ _ _ _ _ (5) _ _ _ _ _ _ _ (@cq4 _ _ _ _ _ _ _ _ _ _ (3) _ _ _ c_nth_root hr_nth_root W7.nd rfl (Or.inl rfl) (@c5 _ _ _ _ _ (pv 0) (@c5 _ _ _ _ _ (pv 1) (@c5 _ _ _ _ _ (pv 2) (@c6 _) (by rfl)) (by rfl)) (by rfl)) (by rfl) (by decide) (by rfl) (by rfl) (by rfl) (by first|exact .inl rfl|exact .inr rfl|assumption)) ER.top W7.nd rfl rfl (fun _=>(@g6 _ _ _ (@i4 _ _ (4) _ _ _ _ W7.nd rfl (Or.inl rfl) (pv 5) (by rfl) (by first|exact .inl rfl|exact .inr rfl|assumption)))) (by rfl) (by rfl) (by rfl) (by rfl) (by decide) (by first|exact .inl rfl|exact .inr rfl|assumption)) (@c7 _ _ _ _ _ (@B5 _ _ _ _ _ _ _ _ (@j8 _ _ _ _ _ _ _ _ cm8 (pv 4) (@am8 _ _ _) (n5 _)) (@g6 _ _ _ (@l8 _ _ _ _ (pv 3))) (@o4 _)) (@g6 _ _ _ (@l8 _ _ _ _ (@i8 _ _ _ _ _ _ _ _ _ _ c_law_word hr_law_word (@c5 _ _ _ _ _ (pv 4) (@c6 _) (by rfl)) (by rfl) (by decide) (by rfl) (by rfl))))))),?_⟩;refine db4 ?_;intros
   try dsimp only[x9,Cx.nox,Cx.wish]
   rcases h with ⟨big,q⟩|⟨few,hk,q⟩|⟨few,j,rfl,hj,q⟩
   · refine ⟨_,rfl,_,rfl,_,rfl,.inr ⟨a,p,m,k,rfl,tp,m1,.inl ⟨big,fun H1 s1=>⟨q_TooMany,rfl,ER.exm ("TooMany",q_TooMany) (by simp),fun a ha=> ?_⟩⟩⟩⟩;refine ⟨_,rfl,?_⟩;refine ⟨_,rfl,rfl,_,rfl,?_⟩;refine C0 ?_;exact ⟨_,rfl,a,"TooMany",q_TooMany,rfl,c8,by simp,fun H' s=>q H' ((s1.trans (e8.upd_new ha)).trans s)⟩
   · refine ⟨_,rfl,_,rfl,_,rfl,.inr ⟨a,p,m,k,rfl,tp,m1,.inr ⟨few,hk,fun H1 kp=>⟨q_NoNumber,rfl,ER.exm ("NoNumber",q_NoNumber) (by simp),fun a ha=> ?_⟩⟩⟩⟩;refine ⟨_,rfl,?_⟩;refine ⟨_,rfl,rfl,_,rfl,?_⟩;refine C0 ?_;exact ⟨_,rfl,a,"NoNumber",q_NoNumber,rfl,c8,by simp,fun H' s=>q H' ((kp.trans (Kp.of (e8.upd_new ha))).trans (Kp.of s))⟩
   · refine ⟨_,rfl,_,rfl,_,rfl,.inl ⟨a,p,m,j,rfl,tp,m1,few,hj,fun b t ts H1 hb all e h1 kp=> ?_⟩⟩;refine ⟨_,rfl,rfl,_,rfl,?_⟩;exact L9 ⟨_,rfl,q b t ts H1 hb all e h1 kp⟩
def bb8:Sp:=fun vs H Q _=>∃(a b:Addr) (p r:List Int) (m:Nat),vs=[.ref a,.int (m:Int),.ref b]/\C3 H a p/\C3 H b r/\p.length=r.length/\1<=m/\((2000 < w9 p m/\∀H',e8 H H'->Q (.str "TooMany") H')\/(w9 p m<=2000/\¬D0 r (m:Int) p/\∀H',Kp H H'->Q (.str "NoRoot") H')\/
 (w9 p m<=2000/\D0 r (m:Int) p/\∀(j:Nat) (ts:List (List Int)) (H':Hp),R5 p m ts->ts[j]? =some r->Kp H H'->Q (.int (j:Int)) H'))
theorem P8:m9 ["p","m","r","found","caught","e"] ["p","m","r"] (j7 ai7):=⟨rfl,rfl,rfl,by decide+kernel,rfl,by decide+kernel,by decide+kernel⟩
theorem bs9 {f:Addr}{fd:FuncData}(F:C7 K "_law_number" "_law_number" ai7 f fd)(c_number_of_root:ac0 P w K mg base "number_of_root" 45 ["p","m","r"] (fun vs H Q E=>bk5 vs H Q E\/(cb5 q_TooMany q_NoRoot) vs H Q E))(c_law_word:n0 P w K mg base "_law_word" 1 ["caught"] (bj3 q_NoTurn q_NoFit q_NoRounds q_NoNumber q_NoRoot q_TooMany q_NoKind q_NoText q_NoName q_NoRow))(ER:ax6 K mg q_TurnError [("NoTurn",q_NoTurn),("NoFit",q_NoFit),("NoRounds",q_NoRounds),("NoNumber",q_NoNumber),("NoRoot",q_NoRoot),("TooMany",q_TooMany),("NoKind",q_NoKind),("NoText",q_NoText),("NoName",q_NoName),("NoRow",q_NoRow)]):n6 P w K mg base E9 46 f fd ["p","m","r"] bb8:=by
 refine F.ok P8 (fun vs H Q E h=> ?_) (fun cdv A outer s H vs Q E hr h=> ?_)
 · obtain ⟨a,b,p,r,m,rfl,tp,tr,el,m1,h⟩:=h;rfl
 · obtain ⟨a,b,p,r,m,rfl,tp,tr,el,m1,h⟩:=h;have hr_number_of_root:l9 45 _:=hr.mono (by decide);have hr_law_word:l9 1 _:=hr.mono (by decide);refine ⟨_,@c7 _ _ _ _ _ (@i4 _ _ (3) _ _ _ _ P8.nd rfl (Or.inl rfl) (@am8 _ _ _) (by rfl) (by first|exact .inl rfl|exact .inr rfl|assumption)) (@c7 _ _ _ _ _ (@i4 _ _ (4) _ _ _ _ P8.nd rfl (Or.inl rfl) (@am8 _ _ _) (by rfl) (by first|exact .inl rfl|exact .inr rfl|assumption)) (@c7 _ _ _ _ _ (@cq5 _ _ _ _ _ (5) _ _ _ _ _ _ _ (@cq4 _ _ _ _ _ _ _ _ _ _ (3) _ _ _ c_number_of_root hr_number_of_root P8.nd rfl (Or.inl rfl) (@c5 _ _ _ _ _ (pv 0) (@c5 _ _ _ _ _ (pv 1) (@c5 _ _ _ _ _ (pv 2) (@c6 _) (by rfl)) (by rfl)) (by rfl)) (by rfl) (by decide) (by rfl) (by rfl) (by rfl) (by first|exact .inl rfl|exact .inr rfl|assumption)) ER.top P8.nd rfl rfl (fun _=>(@g6 _ _ _ (@i4 _ _ (4) _ _ _ _ P8.nd rfl (Or.inl rfl) (pv 5) (by rfl) (by first|exact .inl rfl|exact .inr rfl|assumption)))) (by rfl) (by rfl) (by rfl) (by rfl) (by decide) (by first|exact .inl rfl|exact .inr rfl|assumption)) (@c7 _ _ _ _ _ (@B5 _ _ _ _ _ _ _ _ (@j8 _ _ _ _ _ _ _ _ cm8 (pv 4) (@am8 _ _ _) (n5 _)) (@g6 _ _ _ (@l8 _ _ _ _ (pv 3))) (@o4 _)) (@g6 _ _ _ (@l8 _ _ _ _ (@i8 _ _ _ _ _ _ _ _ _ _ c_law_word hr_law_word (@c5 _ _ _ _ _ (pv 4) (@c6 _) (by rfl)) (by rfl) (by decide) (by rfl) (by rfl))))))),?_⟩;refine db4 ?_;intros
   try dsimp only[x9,Cx.nox,Cx.wish]
   rcases h with ⟨big,q⟩|⟨few,nr,q⟩|⟨few,pw,q⟩
   · refine ⟨_,rfl,_,rfl,_,rfl,.inr ⟨a,b,p,r,m,rfl,tp,tr,el,m1,.inl ⟨big,fun H1 s1=>⟨q_TooMany,rfl,ER.exm ("TooMany",q_TooMany) (by simp),fun a ha=> ?_⟩⟩⟩⟩;refine ⟨_,rfl,?_⟩;refine ⟨_,rfl,rfl,_,rfl,?_⟩;refine C0 ?_;exact ⟨_,rfl,a,"TooMany",q_TooMany,rfl,c8,by simp,fun H' s=>q H' ((s1.trans (e8.upd_new ha)).trans s)⟩
   · refine ⟨_,rfl,_,rfl,_,rfl,.inr ⟨a,b,p,r,m,rfl,tp,tr,el,m1,.inr ⟨few,nr,fun H1 kp=>⟨q_NoRoot,rfl,ER.exm ("NoRoot",q_NoRoot) (by simp),fun a ha=> ?_⟩⟩⟩⟩;refine ⟨_,rfl,?_⟩;refine ⟨_,rfl,rfl,_,rfl,?_⟩;refine C0 ?_;exact ⟨_,rfl,a,"NoRoot",q_NoRoot,rfl,c8,by simp,fun H' s=>q H' ((kp.trans (Kp.of (e8.upd_new ha))).trans (Kp.of s))⟩
   · refine ⟨_,rfl,_,rfl,_,rfl,.inl ⟨a,b,p,r,m,rfl,tp,tr,el,m1,few,pw,fun j ts H1 all e kp=> ?_⟩⟩;refine ⟨_,rfl,rfl,_,rfl,?_⟩;exact L9 ⟨_,rfl,q j ts H1 all e kp⟩
end
end My
namespace My
local macro_rules|`(tactic|omega)=>`(tactic|lia)
open PySem L2 Mth
section
def S8 (n:Nat):Nat->List (List Int)
 |0=>[[]]
 |k+1=>(S8 n k).flatMap fun r=>((ed0 n).filter fun (t:Nat)=> !decide ((t:Int)∈r)).map fun (t:Nat)=>r++[(t:Int)]
theorem ac9 {n:Nat}:∀(k:Nat) {r:List Int},r∈S8 n k↔r.length=k/\r.Nodup/\∀x∈r,0<=x/\x < (n:Int)
 |0,r=>by
  show r∈[[]]↔_;rw[ea1];refine ⟨fun e=>by rw[e];exact ⟨rfl,ef6,(fun x hx=>by cases hx)⟩,fun h=>eh9.mp h.1⟩
 |k+1,r=>by
  show r∈(S8 n k).flatMap _↔_;rw[ef4];constructor
  · rintro ⟨q,hq,h⟩;obtain ⟨t,ht,rfl⟩:=ea2.mp h;obtain ⟨h1,h2⟩:=ef2.mp ht;have h1:=ed1.mp h1;obtain ⟨a,b,c⟩:=(ac9 k).mp hq
    have h2:(t:Int)∉q:=fun z=>by rw[decide_eq_true z] at h2;cases h2
    refine ⟨by rw[dz9,a];rfl,?_,fun x hx=> ?_⟩
    · rw[ef7];refine ⟨b,ed6.mpr ⟨et9,ef6⟩,fun x hx y hy e=> ?_⟩;rw[ea1.mp hy] at e;exact h2 (e▸hx)
    · rcases ea3.mp hx with z|z
      · exact c x z
      · rw[ea1.mp z];omega
  · rintro ⟨a,b,c⟩
    have ne:r≠[]:=fun z=>by rw[z] at a;cases a
    have e:=(en4 ne).symm;have hx:r.getLast ne∈r:=List.getLast_mem ne
    have hl:r.dropLast.length=k:=by rw[eo1,a];rfl
    generalize r.getLast ne=x at e hx;generalize r.dropLast=q at e hl;subst e;rw[ef7] at b;obtain ⟨x0,x1⟩:=c x hx;obtain ⟨t,rfl⟩:=ej1 x0;refine ⟨q,(ac9 k).mpr ⟨hl,b.1,fun y hy=>c y (ed9 _ hy)⟩,ea2.mpr ⟨t,ef2.mpr ⟨ed1.mpr (by omega),?_⟩,rfl⟩⟩;rw[decide_eq_false (fun z=>b.2.2 _ z _ (ea1.mpr rfl) rfl)];rfl
theorem cb6 {n:Nat}{r:List Int}(h:r∈S8 n n):y7 r/\r.length=n:=by
 obtain ⟨a,b,c⟩:=(ac9 n).mp h;exact ⟨⟨b,fun x hx=>(c x hx).1,fun x hx=>by rw[a];exact (c x hx).2⟩,a⟩
theorem dh7 {p:List Int}(t:y7 p):p∈S8 p.length p.length:=(ac9 _).mpr ⟨rfl,t.nd,fun x hx=>⟨t.lo x hx,t.hi x hx⟩⟩
theorem ch9:∀n,n < 7->∀k,k < 7->(S8 n k).length<=720:=by decide+kernel
theorem ci0:∀{a b:List Int} (c d:List Int),a.length=b.length->HT.ba0 a b=true->HT.ba0 (a++c) (b++d)=true
 |[],[],c,d,_,h=>by cases h
 |[],y::b,c,d,l,h=>by cases l
 |x::a,[],c,d,l,h=>by cases l
 |x::a,y::b,c,d,l,h=>by
  rw[HT.cj0] at h;show HT.ba0 (x::(a++c)) (y::(b++d))=true;rw[HT.cj0]
  by_cases e:x=y
  · rw[if_pos e] at h ⊢;exact ci0 c d (Nat.succ.inj l) h
  · rw[if_neg e] at h ⊢;exact h
theorem ci1 {t u:Int}(h:t < u):∀r:List Int,HT.ba0 (r++[t]) (r++[u])=true
 |[]=>by
  show HT.ba0 [t] [u]=true;rw[HT.cj0,if_neg (by omega),decide_eq_true h]
 |x::r=>by
  show HT.ba0 (x::(r++[t])) (x::(r++[u]))=true;rw[HT.cj0,if_pos rfl];exact ci1 h r
theorem cu2 (n:Nat):∀k,(S8 n k).Pairwise fun r r'=>HT.ba0 r r'=true
 |0=>ek8 _ _
 |k+1=>by
  show ((S8 n k).flatMap _).Pairwise _;rw[List.pairwise_flatMap];refine ⟨fun r hr=> ?_,?_⟩
  · rw[ei3]
    exact (List.Pairwise.sublist eo8 ep5).imp fun h=>ci1 (by omega) r
  · refine List.Pairwise.imp_of_mem (fun {a b} ha hb h x hx y hy=> ?_) (cu2 n k);obtain ⟨t,_,rfl⟩:=ea2.mp hx;obtain ⟨u,_,rfl⟩:=ea2.mp hy;exact ci0 _ _ (by rw[((ac9 k).mp ha).1,((ac9 k).mp hb).1]) h
theorem ds7 {ts:List (List Int)}(h:ts.Pairwise fun r r'=>HT.ba0 r r'=true):ts.Nodup:=
 ea7.mpr (h.imp fun {a b} h e=>by rw[e,ao8] at h;cases h)
theorem do7 {ts:List (List Int)}(h:ts.Pairwise fun r r'=>HT.ba0 r r'=true):ck5 ts:=
 h.imp fun {a b} h=>by
   cases z:HT.ba0 b a with
   |false=>rfl
   |true=>have:=bi5 a b a h z;rw[ao8] at this;cases this
theorem R5.uniq {p:List Int}{m:Nat}{ts us:List (List Int)}(h:R5 p m ts)(g:R5 p m us)(tp:y7 p)(lp:p.length<=40)(m1:1<=m):ts=us:=
 as3 ((es0 (h.nd tp lp m1) (g.nd tp lp m1)).mpr fun t=>by rw[h.mem tp lp m1,g.mem tp lp m1]) h.srt g.srt
theorem R5.six {p:List Int}{m:Nat}{ts:List (List Int)}(h:R5 p m ts)(tp:y7 p)(lp:p.length<=40)(m1:1<=m){f:List Int->Bool}(hf:∀r∈S8 p.length p.length,f r=true↔D0 r (m:Int) p):(S8 p.length p.length).filter f=ts:=by
 have up:((S8 p.length p.length).filter f).Pairwise fun r r'=>HT.ba0 r r'=true:=List.Pairwise.sublist eo8 (cu2 _ _)
 refine as3 ((es0 (ds7 up) (h.nd tp lp m1)).mpr fun r=> ?_) (do7 up) h.srt;rw[ef2,h.mem tp lp m1];refine ⟨fun ⟨a,b⟩=>⟨(cb6 a).1,(hf r a).mp b⟩,fun ⟨a,b⟩=> ?_⟩
 have e:r∈S8 p.length p.length:=by
   have:=dh7 a;rw[<-b.1] at this;exact this
 exact ⟨e,(hf r e).mpr b⟩
end
end My
namespace My
local macro_rules|`(tactic|omega)=>`(tactic|lia)
open PySem L2 Mth
section
variable {P:Program} {w:World} {K:PySem.W.Frag} {mg:Str->Option Value} {base:Heap}
theorem cu3 {X:Cx}(K:PySem.W.Frag)(hK:X.K=K:=by rfl):P1 X (compareOp .NotIn) (rIn K true):=by
 subst hK;exact bv0
theorem cu4 {n:Nat}(h:n<=5000):n < sizeLine:=eb5 h (by decide)
def gro (n:Nat)(r:List Int):List (List Int):=((ed0 n).filter fun (t:Nat)=> !decide ((t:Int)∈r)).map fun (t:Nat)=>r++[(t:Int)]
theorem cb7 (t:Nat)(r:List Int):gro (t+1) r=if (t:Int)∈r then gro t r else gro t r++[r++[(t:Int)]]:=by
 unfold gro;rw[ej6,ek6,dz6]
 by_cases c:(t:Int)∈r
 · rw[if_pos c,eh8 (by rw[decide_eq_true c];decide)];exact eb8 _
 · rw[if_neg c,eh7 (by rw[decide_eq_false c];rfl)];rfl
theorem bn7 (n:Nat)(r:List Int):(gro n r).length<=n:=by
 unfold gro;rw[dz0];exact ea4 (ei7 _ _) (by rw[ec5];exact dz3 _)
theorem cb8 (n:Nat):∀ps:List (List Int),(ps.flatMap (gro n)).length<=ps.length*n
 |[]=>by rw[eq3,ee5];exact dz3 _
 |q::ps=>by
  rw[ee2,dz9,ee9,el7];have:=cb8 n ps;have:=bn7 n q;omega
theorem dh8 (x:Int)(r:List Int):inV (.int x) (r.map V.int)=decide (x∈r):=by
 unfold inV;rw[List.any_map,el8,ep9,decide_eq_true_iff];refine ⟨fun ⟨y,hy,e⟩=> ?_,fun h=>⟨x,h,?_⟩⟩
 · have e:(y==x)=true:=e;rw[<-beq_iff_eq.mp e];exact hy
 · show (x==x)=true;exact beq_self_eq_true x
theorem br8:∀r:List Int,(r.map V.int).all O9=true
 |[]=>rfl
 |x::r=>by rw[ed3,es4,br8 r];rfl
def bn8:Sp:=fun vs H Q _=>∃n:Nat,vs=[.int (n:Int)]/\n<=6/\∀(l:Addr) (as:List Addr) (H':Hp),H l=none->e8 H H'->H' l=some (.lst (as.map V.ref))->o3 H' as (S8 n n)->(∀b∈as,H b=none)->Q (.ref l) H'
theorem R6:m9 ["many","found","k","longer","row"] ["many"] (j7 am2):=⟨rfl,rfl,rfl,by decide+kernel,rfl,by decide+kernel,by decide+kernel⟩
theorem am6:(["thing","row"]:List Str).Nodup:=by decide+kernel
theorem cb9 {f:Addr}{fd:FuncData}(F:C7 K "_law_every" "_law_every" am2 f fd)(B:Bl mg):n6 P w K mg base E9 1 f fd ["many"] bn8:=by
 refine F.ok R6 (fun vs H Q E h=> ?_) (fun cdv A outer s H vs Q E hr h=> ?_)
 · obtain ⟨n,rfl,hn,q⟩:=h;rfl
 · obtain ⟨n,rfl,hn,q⟩:=h;have hu:=P9 hr;refine ⟨_,@c7 _ _ _ _ _ (@i4 _ _ (1) _ _ _ _ R6.nd rfl (Or.inl rfl) (@o8 _ _ _ _ (@c5 _ _ _ _ _ (@o8 _ _ _ _ (@c6 _)) (@c6 _) (by rfl))) (by rfl) (by first|exact .inl rfl|exact .inr rfl|assumption)) (@c7 _ _ _ _ _ (@o6 _ _ _ _ _ _ _ _ PassesOwn.never rfl (@K3 _ _ _ _ _ _ (by rfl) B.range (@c5 _ _ _ _ _ (pv 0) (@c6 _) (by rfl)) (by rfl)) (@j6 _ _ (2) _ R6.nd rfl (Or.inl rfl) (by first|exact .inl rfl|exact .inr rfl|assumption)) (@c7 _ _ _ _ _ (@i4 _ _ (3) _ _ _ _ R6.nd rfl (Or.inl rfl) (@o8 _ _ _ _ (@c6 _)) (by rfl) (by first|exact .inl rfl|exact .inr rfl|assumption)) (@c7 _ _ _ _ _ (@o6 _ _ _ _ _ _ _ _ PassesOwn.never rfl (@G8 _ _ _ _ (pv 1)) (@j6 _ _ (4) _ R6.nd rfl (Or.inr rfl) (by first|exact .inl rfl|exact .inr rfl|assumption)) (@g6 _ _ _ (@y6 _ _ _ _ (@cp7 _ _ _ _ _ _ _ (pv 3) (@c5 _ _ _ _ _ (@ba3 _ _ _ _ _ _ _ _ _ _ _ (["thing","row"]) (1) ([4]) rfl .of (@K3 _ _ _ _ _ _ (by rfl) B.range (@c5 _ _ _ _ _ (pv 0) (@c6 _) (by rfl)) (by rfl)) (fun _ _ _ _ _=>@j6 _ _ (0) _ am6 rfl (Or.inl rfl) (by first|exact .inl rfl|exact .inr rfl|assumption)) (fun _ _ _ _ _=>@ah2 _ _ _ (@j8 _ _ _ _ _ _ _ _ (cu3 K) (pv 0) (pv 1) (by with_unfolding_all rfl))) (fun _ _ _ _ _=>(@i7 _ _ _ _ _ _ _ _ an3 (pv 1) (@o8 _ _ _ _ (@c5 _ _ _ _ _ (pv 0) (@c6 _) (by rfl))))) (by intro _;rfl)) (@c6 _) (by rfl)) (by rfl) (by rfl) (by rfl) (by rfl) (by rfl)) (by rfl))) (by intro _;rfl)) (@g6 _ _ _ (@i4 _ _ (1) _ _ _ _ R6.nd rfl (Or.inl rfl) (pv 3) (by rfl) (by first|exact .inl rfl|exact .inr rfl|assumption))))) (by intro _;rfl)) (@g6 _ _ _ (@l8 _ _ _ _ (pv 1)))),?_⟩
   try dsimp only[x9,Cx.nox,Cx.wish]
   refine ⟨eb4 _,fun e0 he0=> ?_⟩;have s1:e8 H (c9 H e0 (.lst [])):=e8.upd_new he0;have h1e:(c9 H e0 (.lst [])) e0=some (.lst (([]:List Int).map V.int)):=c8;generalize (c9 H e0 (.lst []))=H1 at s1 h1e ⊢;refine ⟨(show 1<=sizeLine by decide),fun F0 hF0=> ?_⟩;have s2:e8 H1 (c9 H1 F0 (.lst [V.ref e0])):=e8.upd_new hF0;have h2F:(c9 H1 F0 (.lst [V.ref e0])) F0=some (.lst (([e0]:List Addr).map V.ref)):=c8;generalize (c9 H1 F0 (.lst [V.ref e0]))=H2 at s2 h2F ⊢;have h2e:=s2 _ _ h1e;have s02:=s1.trans s2;refine ⟨_,rfl,(n:Int),rfl,by omega,by omega,?_⟩;rw[show ((n:Int)).toNat=n by omega]
   refine E3 (lo:=0) (n:=n) (fun i σ H3=>∃(F:Addr) (as:List Addr) (v2 v3 v4:Option V),σ=[some (.int (n:Int)),some (.ref F),v2,v3,v4]/\H3 F=some (.lst (as.map V.ref))/\o3 H3 as (S8 n i)/\e8 H H3/\H F=none/\∀b∈as,H b=none)
     ⟨F0,[e0],none,none,none,rfl,h2F,⟨rfl,fun j b r e1 e2=>by
       rcases j with _|j
       · cases e1;cases e2;exact h2e
       · cases e1⟩,s02,s1.free hF0,(fun b hb=>by rw[ea1.mp hb];exact he0)⟩ ?_ ?_
   · rintro i σ H3 hi ⟨F,as,v2,v3,v4,rfl,h3F,rows,s3,hF,frA⟩;have lenA:=ch9 n (by omega) i (by omega);refine ⟨eb4 _,fun L hL=> ?_⟩;have nFL:F≠L:=g8 h3F hL;have hL0:H L=none:=s3.free hL;have kb1:j5 L H3 (c9 H3 L (.lst [])):=j5.upd;have h4L:(c9 H3 L (.lst [])) L=some (.lst (([]:List Addr).map V.ref)):=c8;generalize (c9 H3 L (.lst []))=H4 at kb1 h4L ⊢;have h4F:=kb1 _ _ h3F nFL
     have nLas:L∉as:=fun z=>by
       obtain ⟨r,hr'⟩:=Y9 rows z;rw[hL] at hr';cases hr'
     refine ⟨_,rfl,F,rfl,⟨_,h8.of h4F⟩,K1 (K:=K) (a:=F) (xs:=as.map V.ref) (fun j σ H5=>∃(bs:List Addr) (v4:Option V),σ=[some (.int (n:Int)),some (.ref F),some (.int ((0:Int)+(i:Int))),some (.ref L),v4]/\H5 L=some (.lst (bs.map V.ref))/\o3 H5 bs (((S8 n i).take j).flatMap (gro n))/\j5 L H3 H5/\L∉bs/\∀b∈bs,H b=none)
       ⟨[],v4,rfl,h4L,⟨rfl,fun j b r h=>by cases h⟩,kb1,(fun z=>by cases z),(fun b hb=>by cases hb)⟩ (fun j σ H5 _ ⟨_,_,_,_,_,k,_⟩=>h8.of (k _ _ h3F nFL)) ?_ ?_⟩
     · rintro j x σ H5 hj ⟨bs,v4,rfl,h5L,rowsB,kb5,nLb,frB⟩
       obtain ⟨a,ha,rfl⟩:∃a,as[j]? =some a/\x=V.ref a:=by
         rw[dz4] at hj
         cases e:as[j]? with
         |none=>rw[e] at hj;cases hj
         |some a=>rw[e] at hj;exact ⟨a,rfl,(Option.some.inj hj).symm⟩
       have jl:j < (S8 n i).length:=by rw[<-rows.1];exact (dz2.mp ha).1
       obtain ⟨p,hp⟩:∃p,(S8 n i)[j]? =some p:=⟨_,dz1 jl⟩;have lp:p.length=i:=((ac9 i).mp (dz8 hp)).1;have h3a:=rows.2 j a p ha hp
       have naL:a≠L:=fun z=>nLas (z▸dz8 ha)
       have h5a:=kb5 _ _ h3a naL
       have etk:(S8 n i).take (j+1)=(S8 n i).take j++[p]:=by rw[ev7,hp];rfl
       have cntj:bs.length<=4320:=by
         rw[rowsB.1];have:=cb8 n ((S8 n i).take j);have l2:((S8 n i).take j).length<=720:=ea4 (List.length_take_le _ _) (by omega);have:((S8 n i).take j).length*n<=720*6:=eg3 l2 hn;omega
       refine ⟨_,rfl,.inl ⟨rfl,_,h8.of h5L⟩,_,rfl,(n:Int),rfl,by omega,by omega,?_⟩;rw[show ((n:Int)).toNat=n by omega];refine aq9 (lo:=0) (n:=n) (fun t ys σ H6=>∃(cs:List Addr) (v:Option V),σ=[v,some (.ref a)]/\ys=cs.map V.ref/\o3 H6 cs (gro t p)/\e8 H5 H6/\∀c∈cs,H5 c=none) ⟨[],none,rfl,rfl,⟨rfl,fun j b r h=>by cases h⟩,e8.refl _,fun c hc=>by cases hc⟩ ?_ ?_
       · rintro t ys σ H6 ht ⟨cs,v,rfl,rfl,rowsC,s6,fr⟩
         have e0:(0:Int)+(t:Int)=(t:Int):=by omega
         rw[e0];have h6a:=s6 _ _ h5a
         have lc:cs.length<=6:=by rw[rowsC.1];exact ea4 (bn7 t p) (by omega)
         refine ⟨_,rfl,_,rfl,a,_,rfl,.inl (h8.of h6a),rfl,br8 p,_,rfl,?_⟩;rw[dh8]
         by_cases c:(t:Int)∈p
         · rw[decide_eq_true c];refine C0 ⟨cs,_,rfl,rfl,?_,s6,fr⟩;rw[cb7,if_pos c];exact rowsC
         · rw[decide_eq_false c];refine L9 ⟨_,rfl,_,rfl,(show 1<=sizeLine by decide),fun o ho=> ?_⟩;have s8:e8 H6 (c9 H6 o (.lst [V.int (t:Int)])):=e8.upd_new ho;have h8o:(c9 H6 o (.lst [V.int (t:Int)])) o=some (.lst [V.int (t:Int)]):=c8;generalize (c9 H6 o (.lst [V.int (t:Int)]))=H8 at s8 h8o ⊢;refine ⟨a,o,_,_,rfl,rfl,s8 _ _ h6a,h8o,eg2 (x8 (by simp only[dz0,ep6];omega)),fun e he=> ?_⟩
           have ec:p.map V.int++[V.int (t:Int)]=(p++[(t:Int)]).map V.int:=by rw[dz6];rfl
           rw[ec];have s9:e8 H6 (c9 H8 e (.lst ((p++[(t:Int)]).map V.int))):=s8.trans (e8.upd_new he);have h9e:(c9 H8 e (.lst ((p++[(t:Int)]).map V.int))) e=some (.lst ((p++[(t:Int)]).map V.int)):=c8;generalize (c9 H8 e (.lst ((p++[(t:Int)]).map V.int)))=H9 at s9 h9e ⊢;refine ⟨x8 (by rw[dz0];omega),cs++[e],_,rfl,by rw[dz6];rfl,?_,s6.trans s9,fun b hb=> ?_⟩
           · rw[cb7,if_neg c];exact R9 (B6 rowsC fun b hb o e=>s9 _ _ e) h9e
           · rcases ea3.mp hb with z|z
             · exact fr b z
             · rw[ea1.mp z];exact (s6.trans s8).free he
       · rintro ys σ H6 ⟨cs,v,rfl,rfl,rowsC,s6,fr⟩ D hD;have s7:e8 H5 (c9 H6 D (.lst (cs.map V.ref))):=s6.trans (e8.upd_new hD);have h7D:(c9 H6 D (.lst (cs.map V.ref))) D=some (.lst (cs.map V.ref)):=c8
         have r7:o3 (c9 H6 D (.lst (cs.map V.ref))) cs (gro n p):=B6 rowsC fun b hb o e=>e8.upd_new hD _ _ e
         generalize (c9 H6 D (.lst (cs.map V.ref)))=H7 at s7 h7D r7 ⊢
         have lc:cs.length<=6:=by rw[rowsC.1];exact ea4 (bn7 n p) (by omega)
         refine ⟨L,D,_,_,rfl,rfl,s7 _ _ h5L,h7D,eg2 (cu4 (by rw[dz0,dz0];omega)),?_⟩
         have nLc:L∉cs:=fun z=>by have:=fr L z;rw[h5L] at this;cases this
         rw[<-dz6];refine ⟨bs++cs,_,rfl,c8,?_,(kb5.trans (s7.but L)).upd_a,fun z=> ?_,fun z hz=> ?_⟩
         · rw[etk,ei5,ee2,ek5,eb8]
           refine B6 (bd9 (B6 rowsB fun b hb o e=>s7 _ _ e) r7) fun b hb o e=> ?_
           rw[g7 (show b≠L from fun z=> ?_)]
           · exact e
           · rw[z] at hb
             rcases ea3.mp hb with y|y
             · exact nLb y
             · exact nLc y
         · rcases ea3.mp z with y|y
           · exact nLb y
           · exact nLc y
         · rcases ea3.mp hz with y|y
           · exact frB z y
           · exact (s3.kb kb5 hL0).free (fr z y)
     · rintro σ H5 ⟨bs,v4,rfl,h5L,rowsB,kb5,nLb,frB⟩;rw[dz0,rows.1,ec4] at rowsB;exact ⟨_,rfl,L,bs,_,_,_,rfl,h5L,rowsB,s3.kb kb5 hL0,hL0,frB⟩
   · rintro σ H3 ⟨F,as,v2,v3,v4,rfl,h3F,rows,s3,hF,frA⟩;exact ⟨_,rfl,q F as H3 hF s3 h3F rows frA⟩
def bg2:Sp:=fun vs H Q _=>∃(a:Addr) (p:List Int) (m:Nat),vs=[.ref a,.int (m:Int)]/\H a=some (.lst (p.map V.int))/\y7 p/\p.length<=6/\1<=m/\∀(l:Addr) (as:List Addr) (ts:List (List Int)) (H':Hp),H l=none->e8 H H'->H' l=some (.lst (as.map V.ref))->o3 H' as ts->(∀us,R5 p m us->ts=us)->ts.length<=720->(∀b∈as,H b=none)->Q (.ref l) H'
theorem cc0:m9 ["p","m"] ["p","m"] (j7 am3):=⟨rfl,rfl,rfl,by decide+kernel,rfl,by decide+kernel,by decide+kernel⟩
theorem az5:(["r","p","m"]:List Str).Nodup:=by decide+kernel
theorem cc1 {f:Addr}{fd:FuncData}(F:C7 K "_law_roots" "_law_roots" am3 f fd)(B:Bl mg)(c_law_every:n0 P w K mg base "_law_every" 1 ["many"] bn8)(c_law_power:n0 P w K mg base "_law_power" 2 ["p","m"] bb0):n6 P w K mg base E9 3 f fd ["p","m"] bg2:=by
 refine F.ok cc0 (fun vs H Q E h=> ?_) (fun cdv A outer s H vs Q E hr h=> ?_)
 · obtain ⟨a,p,m,rfl,ha,tp,lp,m1,q⟩:=h;rfl
 · obtain ⟨a,p,m,rfl,ha,tp,lp,m1,q⟩:=h;have hr_law_every:l9 1 _:=hr.mono (by decide);have hr_law_power:l9 2 _:=hr.mono (by decide);have hu:=P9 hr;refine ⟨_,@g6 _ _ _ (@l8 _ _ _ _ (@ba3 _ _ _ _ _ _ _ _ _ _ _ (["r","p","m"]) (1) ([0,1]) rfl .of (@G8 _ _ _ _ (@i8 _ _ _ _ _ _ _ _ _ _ c_law_every hr_law_every (@c5 _ _ _ _ _ (@x6 _ _ _ _ _ B.len (@c5 _ _ _ _ _ (pv 0) (@c6 _) (by rfl)) (by rfl) (by rfl)) (@c6 _) (by rfl)) (by rfl) (by decide) (by rfl) (by rfl))) (fun _ _ _ _ _=>@j6 _ _ (0) _ az5 rfl (Or.inl rfl) (by first|exact .inl rfl|exact .inr rfl|assumption)) (fun _ _ _ _ _=>@ah2 _ _ _ (@j8 _ _ _ _ _ _ _ _ (de7 K 0 hu) (@i8 _ _ _ _ _ _ _ _ _ _ c_law_power hr_law_power (@c5 _ _ _ _ _ (pv 0) (@c5 _ _ _ _ _ (pv 2) (@c6 _) (by rfl)) (by rfl)) (by rfl) (by decide) (by rfl) (by rfl)) (pv 1) (n5 _))) (fun _ _ _ _ _=>(pv 0)) (by intro _;rfl))),?_⟩
   try dsimp only[x9,Cx.nox,Cx.wish]
   refine ⟨_,rfl,a,_,rfl,.inl (h8.of ha),p.length,?_,lp,fun F as H2 hF s2 h2F rows frA=> ?_⟩
   · rw[dz0];rfl
   have lenA:=ch9 p.length (by omega) p.length (by omega);obtain ⟨f,hf⟩:∃f:List Int->Bool,∀r,f r=true↔D0 r (m:Int) p:=⟨fun r=>@decide _ (Classical.propDecidable _),fun r=>@decide_eq_true_iff _ (Classical.propDecidable _)⟩
   refine ⟨F,rfl,⟨_,h8.of h2F⟩,bp5 (K:=K) (a:=F) (xs:=as.map V.ref) (fun i ys σ H5=>∃(v:Option V) (cs:List Addr),σ=[v,some (.ref a),some (.int (m:Int))]/\ys=cs.map V.ref/\o3 H5 cs (((S8 p.length p.length).take i).filter f)/\e8 H2 H5/\∀c∈cs,H c=none)
     ⟨none,[],rfl,rfl,⟨rfl,fun j b r h=>by cases h⟩,e8.refl _,(fun c hc=>by cases hc)⟩ (fun i ys σ H5 _ ⟨_,_,_,_,_,k,_⟩=>h8.of (k _ _ h2F)) ?_ ?_⟩
   · rintro i x ys σ H5 hi ⟨v,cs,rfl,rfl,rowsC,s5,frC⟩
     obtain ⟨b,hb,rfl⟩:∃b,as[i]? =some b/\x=V.ref b:=by
       rw[dz4] at hi
       cases e:as[i]? with
       |none=>rw[e] at hi;cases hi
       |some a=>rw[e] at hi;exact ⟨a,rfl,(Option.some.inj hi).symm⟩
     have il:i < (S8 p.length p.length).length:=by rw[<-rows.1];exact (dz2.mp hb).1
     obtain ⟨r,hr⟩:∃r,(S8 p.length p.length)[i]? =some r:=⟨_,dz1 il⟩;obtain ⟨tr,lr⟩:=cb6 (dz8 hr);have hb5:=s5 _ _ (rows.2 i b r hb hr)
     have ly:cs.length<=720:=by rw[rowsC.1];exact ea4 (ei7 _ _) (ea4 (List.length_take_le _ _) (by omega))
     refine ⟨_,rfl,_,rfl,b,r,(m:Int),rfl,⟨hb5,tr,by omega⟩,fun l t H6 hl s6 pw h6=> ?_⟩;have s56:=s5.trans s6;refine ⟨_,rfl,l,a,_,_,_,rfl,rfl,h8.of h6,h8.of (s56 _ _ (s2 _ _ ha)),M7 _ _ _ _ _,_,rfl,?_⟩;rw[l6 hr,ek6]
     by_cases c:t=p
     · rw[decide_eq_true c,eh7 ((hf r).mpr (by rw[<-c];exact pw))];refine L9 ⟨_,rfl,x8 (by rw[dz0];omega),_,cs++[b],rfl,by rw[dz6];rfl,?_,s56,fun c hc=> ?_⟩
       · exact R9 (B6 rowsC fun b hb o e=>s6 _ _ e) (s6 _ _ hb5)
       · rcases ea3.mp hc with y|y
         · exact frC c y
         · rw[ea1.mp y];exact frA b (dz8 hb)
     · rw[decide_eq_false c,eh8 (fun y=>c (pw.uniq ((hf r).mp y)))];refine C0 ⟨_,cs,rfl,rfl,?_,s56,frC⟩;rw[en1,eb8]
       exact B6 rowsC fun b hb o e=>s6 _ _ e
   · rintro ys σ H5 ⟨v,cs,rfl,rfl,rowsC,s5,frC⟩ D hD;rw[dz0,rows.1,ec4] at rowsC;refine q D cs _ _ ((s2.trans s5).free hD) ((s2.trans s5).trans (e8.upd_new hD)) c8 (B6 rowsC fun b hb o e=>e8.upd_new hD _ _ e) (fun us au=> ?_) (ea4 (ei7 _ _) lenA) frC
     exact au.six tp (by omega) m1 fun r hr=>hf r
end
end My
namespace My
local macro_rules|`(tactic|omega)=>`(tactic|lia)
open PySem L2 Mth
section
variable {P:Program} {w:World} {K:PySem.W.Frag} {mg:Str->Option Value} {base:Heap} {q_TurnError q_NoTurn q_NoFit q_NoRounds q_NoNumber q_NoRoot q_TooMany q_NoKind q_NoText q_NoName q_NoRow:Addr}
theorem ds8 {R:St->Hp->Prop}{σ:St}{H:Hp}{A:Prop}{b:Bool}(G:St->Hp->Prop)(rest:∀σ' H',G σ' H'->R σ' H')(hb:G σ H)(ha:(∀σ' H',G σ' H'->R σ' H')->A):if b=true then A else R σ H:=by
 cases b with
 |true=>exact ha rest
 |false=>exact rest σ H hb
theorem Kp.seq {H H':Hp}(k:Kp H H'){a:Addr}{xs:List V}(h:h8 K H a xs):h8 K H' a xs:=by
 rcases h with (e|⟨o,e⟩)|h
 · exact .inl (.inl (k.lst e))
 · exact .inl (.inr ⟨o,k.nd _ _ e (fun kvs z=>by cases z)⟩)
 · exact .inr h
def R7 (H:Hp)(g l:Addr):Hp:=fun a=>if a=g\/a=l then none else H a
theorem ci2 {g:Addr}{H H':Hp}(k:j5 g H H'):e8 (R7 H g g) H':=fun b u e=>by
 unfold R7 at e
 by_cases c:b=g
 · rw[if_pos (.inl c)] at e;cases e
 · rw[if_neg (fun z=>c (z.elim id id))] at e;exact k _ _ e c
theorem U2 {g b:Addr}{H:Hp}{u:HO}(e:H b=some u)(n:b≠g):R7 H g g b=some u:=by
 unfold R7;rw[if_neg (fun z=>n (z.elim id id))];exact e
theorem ds9 {R:St->Hp->Prop}{σ:St}{H:Hp}{A B:Prop}{b:Bool}(rest:R σ H)(ha:b=true->R σ H->A):if b=true then A else if false=true then B else R σ H:=by
 cases b with
 |true=>exact ha rfl rest
 |false=>exact rest
theorem Kp.kb {H H1 H2:Hp}{g:Addr}(hg:H g=none)(k:Kp H H1)(b:j5 g H1 H2):Kp H H2:=by
 have ne:∀x u,H x=some u->x≠g:=fun x u e z=>by rw[z,hg] at e;cases e
 refine ⟨fun x u e n=>b _ _ (k.nd x u e n) (ne x u e),fun x es e=> ?_,fun x e=> ?_⟩
 · have nx:x≠g:=e.elim (fun e=>ne x _ e) fun ⟨o,e⟩=>ne x _ e
   rcases k.tab x es e with z|⟨o,z⟩
   · exact .inl (b _ _ z nx)
   · exact .inr ⟨o,b _ _ z nx⟩
 · by_cases c:x=g
   · rw[c];exact hg
   · refine k.fr x ?_
     cases z:H1 x with
     |none=>rfl
     |some u=>rw[b _ _ z c] at e;cases e
theorem Kp.hol2 {H H1:Hp}{g:Addr}(k:Kp H H1):Kp (R7 H g g) (R7 H1 g g):=by
 have ne:∀{H:Hp} {x u},R7 H g g x=some u->x≠g/\H x=some u:=fun {H x u} e=>by
   unfold R7 at e
   by_cases c:x=g
   · rw[if_pos (.inl c)] at e;cases e
   · rw[if_neg (fun z=>c (z.elim id id))] at e;exact ⟨c,e⟩
 refine ⟨fun x u e n=>U2 (k.nd x u (ne e).2 n) (ne e).1,fun x es e=> ?_,fun x e=> ?_⟩
 · rcases e with e|⟨o,e⟩
   · rcases k.tab x es (.inl (ne e).2) with z|⟨o,z⟩
     · exact .inl (U2 z (ne e).1)
     · exact .inr ⟨o,U2 z (ne e).1⟩
   · rcases k.tab x es (.inr ⟨o,(ne e).2⟩) with z|⟨o,z⟩
     · exact .inl (U2 z (ne e).1)
     · exact .inr ⟨o,U2 z (ne e).1⟩
 · unfold R7 at e ⊢
   by_cases c:x=g\/x=g
   · rw[if_pos c]
   · rw[if_neg c] at e ⊢;exact k.fr x e
theorem al0 (H:Hp)(g:Addr):R7 H g g g=none:=by
 unfold R7;rw[if_pos (.inl rfl)]
theorem Kp.into (H:Hp)(g:Addr):Kp (R7 H g g) H:=Kp.of (ci2 ((e8.refl H).but g))
theorem W8 {H:Hp}{a b:Addr}(h:B7 H a)(n:H b=none):b≠a:=fun z=>by obtain ⟨o,e⟩:=h.some;rw[<-z,n] at e;cases e
theorem cc2 {H:Hp}{a b:Addr}{o:HO}(h:B7 H a)(n:a≠b):B7 (L2.c9 H b o) a:=let ⟨ds,e,r⟩:=h;⟨ds,by rw[g7 n];exact e,r⟩
theorem cc3 (K:PySem.W.Frag)(H:Hp)(n:Nat)(xs:List V)(h:xs.all O9=true)(h2:∀x∈xs,Z9 x x=true):LEq K H n xs xs true:=by
 refine .inr ⟨fun _=>true,rfl,fun j x y e1 e2=> ?_,by rw[eq_comm,av0];exact fun _ _=>rfl⟩;rw[e1] at e2;cases e2;have m:=dz8 e1;rw[<-h2 x m];exact .flat (ei2.mp h x m) (ei2.mp h x m)
theorem dh9 (xs:List V)(k:Nat):Y2 xs none (some (k:Int))=xs.take (min k xs.length):=by
 have e:Y2 xs none (some (k:Int))=Y2 xs (some ((0:Nat):Int)) (some (k:Int)):=by
   unfold Y2;rw[HT.dx3 xs.length 0 0,HT.dw1,Nat.zero_min]
 rw[e,dd3 xs 0 k (eb4 _)];rfl
theorem dt0 {R:St->Hp->Prop}{σ:St}{H:Hp}{A:Prop}{b:Bool}(G:St->Hp->Prop)(rest:∀σ' H',G σ' H'->R σ' H')(hb:b=false->G σ H)(ha:b=true->(∀σ' H',G σ' H'->R σ' H')->A):if b=true then A else R σ H:=by
 cases b with
 |true=>exact ha rfl rest
 |false=>exact rest σ H (hb rfl)
theorem cl7 (H:Hp)(g:Addr):R7 (R7 H g g) g g=R7 H g g:=by
 funext a;unfold R7
 by_cases c:a=g\/a=g
 · rw[if_pos c,if_pos c]
 · rw[if_neg c,if_neg c]
theorem do8 {R:St->Hp->Prop}{σ:St}{H:Hp}{A:Prop}{b:Bool}(G:St->Hp->Prop)(rest:∀σ' H',G σ' H'->R σ' H')(hb:G σ H)(ha:b=true->(∀σ' H',G σ' H'->R σ' H')->A):if b=true then A else R σ H:=by
 cases b with
 |true=>exact ha rfl rest
 |false=>exact rest σ H hb
theorem C3.keep {H H':Hp}{a:Addr}{p:List Int}(h:C3 H a p)(s:e8 H H'):C3 H' a p:=⟨s _ _ h.1,h.2⟩
def am7:Sp:=fun vs H Q _=>∃(a d:Addr) (p:List Int) (bs:List Addr) (ts:List (List Int)) (m k:Nat),vs=[.ref a,.int (m:Int),.ref d,.int (k:Int)]/\C3 H a p/\1<=m/\w9 p m<=2000/\H d=some (.lst (bs.map V.ref))/\o3 H bs ts/\R5 p m ts/\k < w9 p m/\∀H',Kp H H'->Q (.bl true) H'
theorem X1:m9 ["p","m","due","k","found","number"] ["p","m","due","k"] (j7 Y8):=⟨rfl,rfl,rfl,by decide+kernel,rfl,by decide+kernel,by decide+kernel⟩
theorem bc1 {f:Addr}{fd:FuncData}(F:C7 K "_law_root_right" "_law_root_right" Y8 f fd)(B:Bl mg)(c_law_nth:n0 P w K mg base "_law_nth" 46 ["p","m","k"] bb7)(c_law_number:n0 P w K mg base "_law_number" 46 ["p","m","r"] bb8):n6 P w K mg base E9 47 f fd ["p","m","due","k"] am7:=by
 refine F.ok X1 (fun vs H Q E h=> ?_) (fun cdv A outer s H vs Q E hr h=> ?_)
 · obtain ⟨a,d,p,bs,ts,m,k,rfl,ta,m1,few,hd,rows,all,hk,q⟩:=h;rfl
 · obtain ⟨a,d,p,bs,ts,m,k,rfl,ta,m1,few,hd,rows,all,hk,q⟩:=h;have hr_law_nth:l9 46 _:=hr.mono (by decide);have hr_law_number:l9 46 _:=hr.mono (by decide);have hu:=P9 hr;refine ⟨_,@c7 _ _ _ _ _ (@i4 _ _ (4) _ _ _ _ X1.nd rfl (Or.inl rfl) (@i8 _ _ _ _ _ _ _ _ _ _ c_law_nth hr_law_nth (@c5 _ _ _ _ _ (pv 0) (@c5 _ _ _ _ _ (pv 1) (@c5 _ _ _ _ _ (pv 3) (@c6 _) (by rfl)) (by rfl)) (by rfl)) (by rfl) (by decide) (by rfl) (by rfl)) (by rfl) (by first|exact .inl rfl|exact .inr rfl|assumption)) (@c7 _ _ _ _ _ (@B5 _ _ _ _ _ _ _ _ (@Q4 _ _ _ _ _ _ _ (@U9 _ _ _ _ (@S6 _ _ _ (@ao0 _ _ _ _ _ _ B.isi (@c5 _ _ _ _ _ (pv 4) (@c5 _ _ _ _ _ (@bp7 _ _ B.list (by rfl)) (@c6 _) (by rfl)) (by rfl)) (by rfl) (by rfl) (by rfl)) (by intro _;rfl))) (@Z8 _ _ _ _ (@j8 _ _ _ _ _ _ _ _ (an9 0 hu) (pv 4) (@J9 _ _ _ _ _ _ _ C5 (pv 2) (pv 3) (fun _ _=>rfl)) (n5 _)))).pt (@g6 _ _ _ (@l8 _ _ _ _ (@Q3 _ _ _ _))) (@o4 _)) (@c7 _ _ _ _ _ (@i4 _ _ (5) _ _ _ _ X1.nd rfl (Or.inl rfl) (@i8 _ _ _ _ _ _ _ _ _ _ c_law_number hr_law_number (@c5 _ _ _ _ _ (pv 0) (@c5 _ _ _ _ _ (pv 1) (@c5 _ _ _ _ _ (pv 4) (@c6 _) (by rfl)) (by rfl)) (by rfl)) (by rfl) (by decide) (by rfl) (by rfl)) (by rfl) (by first|exact .inl rfl|exact .inr rfl|assumption)) (@c7 _ _ _ _ _ (@B5 _ _ _ _ _ _ _ _ (@Q4 _ _ _ _ _ _ _ (@U9 _ _ _ _ (@S6 _ _ _ (@ao0 _ _ _ _ _ _ B.isi (@c5 _ _ _ _ _ (pv 5) (@c5 _ _ _ _ _ (@bw4 _ _ B.int (by rfl)) (@c6 _) (by rfl)) (by rfl)) (by rfl) (by rfl) (by rfl)) (by intro _;rfl))) (@Q4 _ _ _ _ _ _ _ (@S6 _ _ _ (@ao0 _ _ _ _ _ _ B.isi (@c5 _ _ _ _ _ (pv 5) (@c5 _ _ _ _ _ (@bp6 _ _ B.bool (by rfl)) (@c6 _) (by rfl)) (by rfl)) (by rfl) (by rfl) (by rfl)) (by intro _;rfl)) (@Q4 _ _ _ _ _ _ _ (@j8 _ _ _ _ _ _ _ _ ap9 (pv 5) (pv 3) (n5 _)) (@Z8 _ _ _ _ (@j8 _ _ _ _ _ _ _ _ (an9 0 hu) (pv 4) (@J9 _ _ _ _ _ _ _ C5 (pv 2) (pv 3) (fun _ _=>rfl)) (n5 _)))))).pt (@g6 _ _ _ (@l8 _ _ _ _ (@Q3 _ _ _ _))) (@o4 _)) (@c7 _ _ _ _ _ (@y6 _ _ _ _ (@E4 _ _ _ _ _ _ _ (pv 4) (@c5 _ _ _ _ _ (@g9 _ _ _ _) (@c6 _) (by rfl)) (by rfl) (by rfl) (by rfl) (by rfl) (by rfl)) (by rfl)) (@g6 _ _ _ (@l8 _ _ _ _ (@az9 _ _ _ _ _ _ _ _ (an8 0 hu) (@i8 _ _ _ _ _ _ _ _ _ _ c_law_nth hr_law_nth (@c5 _ _ _ _ _ (pv 0) (@c5 _ _ _ _ _ (pv 1) (@c5 _ _ _ _ _ (pv 3) (@c6 _) (by rfl)) (by rfl)) (by rfl)) (by rfl) (by decide) (by rfl) (by rfl)) (@J9 _ _ _ _ _ _ _ C5 (pv 2) (pv 3) (fun _ _=>rfl)) (n5 _)))))))),?_⟩;refine ck7 ?_;intros
   try dsimp only[x9,Cx.nox,Cx.wish]
   have tp:=ta.2.1;have l1:=ta.2.2;have lts:=all.len;have lbs:bs.length=ts.length:=rows.1;refine ⟨_,rfl,_,rfl,_,rfl,a,p,m,(k:Int),rfl,ta,m1,.inr (.inr ⟨few,k,rfl,hk,fun b t us H1 hb al e h1 kp=> ?_⟩)⟩;have eu:=al.uniq all tp l1 m1;rw[eu] at e;have eb:bs[k]? =some (bs[k]'(by omega)):=dz1 (by omega);generalize bs[k]'(by omega)=bk at eb;have hbk:=rows.2 k bk t eb e;have ix:atI (bs.map V.ref) (k:Int)=some (.ref bk):=G9 (j:=k) (by rw[dz4,eb];rfl);have tr:=all.root tp l1 m1 t (dz8 e);have lr:p.length=t.length:=tr.2.1;refine ⟨_,rfl,_,"list",_,true,rfl,.lst h1,Y4 K "list",true,rfl,C0 ?_⟩;refine ⟨_,rfl,_,rfl,_,rfl,d,_,_,_,rfl,rfl,h8.of (kp.lst hd),ix,b,bk,_,_,_,rfl,rfl,h8.of h1,h8.of (kp.lst hbk),M7 _ _ _ _ _,_,rfl,?_⟩;rw[decide_eq_true rfl];refine C0 ?_;refine ⟨_,rfl,_,rfl,_,rfl,a,b,p,t,m,rfl,⟨kp.lst ta.1,ta.2⟩,⟨h1,tr.1,by omega⟩,lr,m1,.inr (.inr ⟨few,tr.2,fun j us2 H2 al2 e2 kp2=> ?_⟩)⟩;have eu2:=al2.uniq all tp l1 m1;rw[eu2] at e2
   have ej:j=k:=by
     have nd:=ea7.mp (all.nd tp l1 m1);obtain ⟨a1,a2⟩:=dz2.mp e2;obtain ⟨b1,b2⟩:=dz2.mp e
     rcases es7 j k with z|z|z
     · exact (eb7.mp nd j k a1 b1 z (by rw[a2,b2])).elim
     · exact z
     · exact (eb7.mp nd k j b1 a1 z (by rw[a2,b2])).elim
   subst ej;have k02:=kp.trans kp2;have h2b:=kp2.lst h1;refine ⟨_,rfl,.int _,"int",_,true,rfl,.int _,Y4 K "int",true,rfl,C0 ?_⟩;refine ⟨_,rfl,.int _,"bool",_,false,rfl,.int _,V1 K,false,rfl,C0 ?_⟩;refine ⟨_,rfl,_,rfl,rfl,_,rfl,ba2 rfl ?_⟩;refine ⟨_,rfl,_,rfl,_,rfl,d,_,_,_,rfl,rfl,h8.of (k02.lst hd),ix,b,bk,_,_,_,rfl,rfl,h8.of h2b,h8.of (k02.lst hbk),M7 _ _ _ _ _,_,rfl,?_⟩;rw[decide_eq_true rfl];refine C0 ?_;refine ⟨_,rfl,.inl ⟨rfl,_,h8.of h2b⟩,b,_,_,rfl,rfl,h2b,x8 (by rw[dz0];omega),?_⟩;have k3:j5 b H2 (c9 H2 b (.lst (t.map V.int++[V.int 0]))):=j5.upd;generalize (c9 H2 b (.lst (t.map V.int++[V.int 0])))=H3 at k3 ⊢;have k03:Kp H H3:=k02.kb hb k3;refine ⟨_,rfl,_,rfl,_,rfl,a,p,m,(j:Int),rfl,⟨k03.lst ta.1,ta.2⟩,m1,.inr (.inr ⟨few,j,rfl,hk,fun b4 t4 us4 H4 hb4 al4 e4 h4 kp4=> ?_⟩)⟩;have eu4:=al4.uniq all tp l1 m1;rw[eu4] at e4;have et:t4=t:=Option.some.inj (e4.symm.trans e);have k04:=k03.trans kp4;refine ⟨_,rfl,_,rfl,d,_,_,_,rfl,rfl,h8.of (k04.lst hd),ix,b4,bk,_,_,_,rfl,rfl,h8.of h4,h8.of (k04.lst hbk),M7 _ _ _ _ _,?_⟩;rw[decide_eq_true et];exact q H4 k04
def az6:Sp:=fun vs H Q _=>∃(g a:Addr) (p:List Int) (m:Nat) (far:Int),vs=[.ref g,.ref a,.int (m:Int),.int far]/\B7 H g/\a≠g/\C3 H a p/\1<=m/\0<=far/\∀(H':Hp),Kp (R7 H g g) H'->Q (.bl true) H'
theorem G2:m9 ["deck","p","m","far","kept","words","due","many","k","other","word","handed"] ["deck","p","m","far"] (j7 am4):=⟨rfl,rfl,rfl,by decide+kernel,rfl,by decide+kernel,by decide+kernel⟩
theorem au8:(["bad","p","m"]:List Str).Nodup:=by decide+kernel
theorem cc4 {f:Addr}{fd:FuncData}(F:C7 K "_law_right" "_law_right" am4 f fd)(B:Bl mg)(c_law_how_many:n0 P w K mg base "_law_how_many" 3 ["p","m"] aj1)(c_law_number:n0 P w K mg base "_law_number" 46 ["p","m","r"] bb8)(c_law_nth:n0 P w K mg base "_law_nth" 46 ["p","m","k"] bb7)(c_all_roots:n0 P w K mg base "all_roots" 44 ["p","m"] ae7)(c_law_roots:n0 P w K mg base "_law_roots" 3 ["p","m"] bg2)(c_law_root_right:n0 P w K mg base "_law_root_right" 47 ["p","m","due","k"] am7)(c_law_next:n0 P w K mg base "_law_next" 1 ["deck"] ap0)(c_law_turn:n0 P w K mg base "_law_turn" 2 ["deck","many"] bb2):n6 P w K mg base E9 48 f fd ["deck","p","m","far"] az6:=by
 refine F.ok G2 (fun vs H Q E h=> ?_) (fun cdv A outer s H vs Q E hr h=> ?_)
 · obtain ⟨g,a,p,m,far,rfl,D,nag,ta,m1,hfar,q⟩:=h;rfl
 · obtain ⟨g,a,p,m,far,rfl,D,nag,ta,m1,hfar,q⟩:=h;have hr_law_how_many:l9 3 _:=hr.mono (by decide);have hr_law_number:l9 46 _:=hr.mono (by decide);have hr_law_nth:l9 46 _:=hr.mono (by decide);have hr_all_roots:l9 44 _:=hr.mono (by decide);have hr_law_roots:l9 3 _:=hr.mono (by decide);have hr_law_root_right:l9 47 _:=hr.mono (by decide);have hr_law_next:l9 1 _:=hr.mono (by decide);have hr_law_turn:l9 2 _:=hr.mono (by decide);have hu:=P9 hr;have hu2:_+1+1 < cLine:=eb5 (ej4 (by decide:2<=64) _) hr.units;have hu3:_+2+1 < cLine:=eb5 (ej4 (by decide:3<=64) _) hr.units;refine ⟨_,@c7 _ _ _ _ _ (@i4 _ _ (4) _ _ _ _ G2.nd rfl (Or.inl rfl) (@ad9 _ _ _ _ _ B.list (@c5 _ _ _ _ _ (pv 1) (@c6 _) (by rfl)) (by rfl) (by rfl)) (by rfl) (by first|exact .inl rfl|exact .inr rfl|assumption)) (@c7 _ _ _ _ _ (@B5 _ _ _ _ _ _ _ _ (@j8 _ _ _ _ _ _ _ _ aq0 (@i8 _ _ _ _ _ _ _ _ _ _ c_law_how_many hr_law_how_many (@c5 _ _ _ _ _ (pv 1) (@c5 _ _ _ _ _ (pv 2) (@c6 _) (by rfl)) (by rfl)) (by rfl) (by decide) (by rfl) (by rfl)) (@g9 _ _ _ _) (n5 _)) (@c7 _ _ _ _ _ (@i4 _ _ (5) _ _ _ _ G2.nd rfl (Or.inl rfl) (@o8 _ _ _ _ (@c5 _ _ _ _ _ (@i8 _ _ _ _ _ _ _ _ _ _ c_law_nth hr_law_nth (@c5 _ _ _ _ _ (pv 1) (@c5 _ _ _ _ _ (pv 2) (@c5 _ _ _ _ _ (@bt2 _ _ _ _ _ _ bg4 (@g9 _ _ _ _)) (@c6 _) (by rfl)) (by rfl)) (by rfl)) (by rfl) (by decide) (by rfl) (by rfl)) (@c5 _ _ _ _ _ (@i8 _ _ _ _ _ _ _ _ _ _ c_law_nth hr_law_nth (@c5 _ _ _ _ _ (pv 1) (@c5 _ _ _ _ _ (pv 2) (@c5 _ _ _ _ _ (@g9 _ _ _ _) (@c6 _) (by rfl)) (by rfl)) (by rfl)) (by rfl) (by decide) (by rfl) (by rfl)) (@c5 _ _ _ _ _ (@i8 _ _ _ _ _ _ _ _ _ _ c_law_number hr_law_number (@c5 _ _ _ _ _ (pv 1) (@c5 _ _ _ _ _ (pv 2) (@c5 _ _ _ _ _ (@ad9 _ _ _ _ _ B.list (@c5 _ _ _ _ _ (pv 1) (@c6 _) (by rfl)) (by rfl) (by rfl)) (@c6 _) (by rfl)) (by rfl)) (by rfl)) (by rfl) (by decide) (by rfl) (by rfl)) (@c6 _) (by rfl)) (by rfl)) (by rfl))) (by rfl) (by first|exact .inl rfl|exact .inr rfl|assumption)) (@g6 _ _ _ (@l8 _ _ _ _ (@bu3 _ _ _ _ _ _ _ (@az9 _ _ _ _ _ _ _ _ (an8 0 hu) (pv 5) (@i7 _ _ _ _ _ _ _ _ bg9 (@o8 _ _ _ _ (@c5 _ _ _ _ _ (@ad7 _ _ _ _) (@c6 _) (by rfl))) (@g9 _ _ _ _)) (n5 _)) (@bu2 _ _ _ _ _ (@az9 _ _ _ _ _ _ _ _ (an8 0 hu) (pv 1) (pv 4) (n5 _))))))) (@o4 _)) (@c7 _ _ _ _ _ (@i4 _ _ (6) _ _ _ _ G2.nd rfl (Or.inl rfl) (@i8 _ _ _ _ _ _ _ _ _ _ c_all_roots hr_all_roots (@c5 _ _ _ _ _ (pv 1) (@c5 _ _ _ _ _ (pv 2) (@c6 _) (by rfl)) (by rfl)) (by rfl) (by decide) (by rfl) (by rfl)) (by rfl) (by first|exact .inl rfl|exact .inr rfl|assumption)) (@c7 _ _ _ _ _ (@B5 _ _ _ _ _ _ _ _ (@j8 _ _ _ _ _ _ _ _ aj9 (@x6 _ _ _ _ _ B.len (@c5 _ _ _ _ _ (pv 1) (@c6 _) (by rfl)) (by rfl) (by rfl)) (@g9 _ _ _ _) (n5 _)) (@g6 _ _ _ (@i4 _ _ (6) _ _ _ _ G2.nd rfl (Or.inl rfl) (@i8 _ _ _ _ _ _ _ _ _ _ c_law_roots hr_law_roots (@c5 _ _ _ _ _ (pv 1) (@c5 _ _ _ _ _ (pv 2) (@c6 _) (by rfl)) (by rfl)) (by rfl) (by decide) (by rfl) (by rfl)) (by rfl) (by first|exact .inl rfl|exact .inr rfl|assumption))) (@o4 _)) (@c7 _ _ _ _ _ (@i4 _ _ (7) _ _ _ _ G2.nd rfl (Or.inl rfl) (@x6 _ _ _ _ _ B.len (@c5 _ _ _ _ _ (pv 6) (@c6 _) (by rfl)) (by rfl) (by rfl)) (by rfl) (by first|exact .inl rfl|exact .inr rfl|assumption)) (@c7 _ _ _ _ _ (@B5 _ _ _ _ _ _ _ _ (@di6 _ _ _ _ _ _ _ (@j8 _ _ _ _ _ _ _ _ aq0 (@x6 _ _ _ _ _ B.len (@c5 _ _ _ _ _ (pv 1) (@c6 _) (by rfl)) (by rfl) (by rfl)) (@g9 _ _ _ _) (n5 _)) (@dc0 _ _ _ _ (@j8 _ _ _ _ _ _ _ _ aq0 (pv 7) (@g9 _ _ _ _) (n5 _)))).pt (@g6 _ _ _ (@l8 _ _ _ _ (@bu3 _ _ _ _ _ _ _ (@i8 _ _ _ _ _ _ _ _ _ _ c_law_root_right hr_law_root_right (@c5 _ _ _ _ _ (pv 1) (@c5 _ _ _ _ _ (pv 2) (@c5 _ _ _ _ _ (pv 6) (@c5 _ _ _ _ _ (@i7 _ _ _ _ _ _ _ _ C6 (@i8 _ _ _ _ _ _ _ _ _ _ c_law_next hr_law_next (@c5 _ _ _ _ _ (pv 0) (@c6 _) (by rfl)) (by rfl) (by decide) (by rfl) (by rfl)) (pv 7)) (@c6 _) (by rfl)) (by rfl)) (by rfl)) (by rfl)) (by rfl) (by decide) (by rfl) (by rfl)) (@bu2 _ _ _ _ _ (@az9 _ _ _ _ _ _ _ _ (an8 0 hu) (pv 1) (pv 4) (n5 _)))))) (@o4 _)) (@c7 _ _ _ _ _ (@o6 _ _ _ _ _ _ _ _ PassesOwn.never rfl (@G8 _ _ _ _ (@ab4 _ _ _ _ _ _ _ _ _ _ ag3 (@o8 _ _ _ _ (@c5 _ _ _ _ _ (@i7 _ _ _ _ _ _ _ _ C6 (@i8 _ _ _ _ _ _ _ _ _ _ c_law_next hr_law_next (@c5 _ _ _ _ _ (pv 0) (@c6 _) (by rfl)) (by rfl) (by decide) (by rfl) (by rfl)) (@ce9 _ _ _ _ _ _ rfl B.max (@c5 _ _ _ _ _ (@g9 _ _ _ _) (@c5 _ _ _ _ _ (pv 7) (@c6 _) (by rfl)) (by rfl)) (by rfl) (by rfl) (by rfl))) (@c5 _ _ _ _ _ (@J9 _ _ _ _ _ _ _ C5 (@o8 _ _ _ _ (@c5 _ _ _ _ _ (@g9 _ _ _ _) (@c5 _ _ _ _ _ (@i7 _ _ _ _ _ _ _ _ V0 (pv 7) (@g9 _ _ _ _)) (@c6 _) (by rfl)) (by rfl))) (@i7 _ _ _ _ _ _ _ _ C6 (@i8 _ _ _ _ _ _ _ _ _ _ c_law_next hr_law_next (@c5 _ _ _ _ _ (pv 0) (@c6 _) (by rfl)) (by rfl) (by decide) (by rfl) (by rfl)) (@g9 _ _ _ _)) (fun _ _=>rfl)) (@c6 _) (by rfl)) (by rfl))) (@ag2 _) (@ab3 _ _ _ (@i7 _ _ _ _ _ _ _ _ O4 (@g9 _ _ _ _) (pv 7))))) (@j6 _ _ (8) _ G2.nd rfl (Or.inl rfl) (by first|exact .inl rfl|exact .inr rfl|assumption)) (@g6 _ _ _ (@B5 _ _ _ _ _ _ _ _ (@U9 _ _ _ _ (@S6 _ _ _ (@i8 _ _ _ _ _ _ _ _ _ _ c_law_root_right hr_law_root_right (@c5 _ _ _ _ _ (pv 1) (@c5 _ _ _ _ _ (pv 2) (@c5 _ _ _ _ _ (pv 6) (@c5 _ _ _ _ _ (pv 8) (@c6 _) (by rfl)) (by rfl)) (by rfl)) (by rfl)) (by rfl) (by decide) (by rfl) (by rfl)) (by intro _;rfl))) (@g6 _ _ _ (@l8 _ _ _ _ (@Q3 _ _ _ _))) (@o4 _))) (by intro _;rfl)) (@c7 _ _ _ _ _ (@B5 _ _ _ _ _ _ _ _ (@j8 _ _ _ _ _ _ _ _ (an9 0 hu) (@ba3 _ _ _ _ _ _ _ _ _ _ _ (["bad","p","m"]) (1) ([1,2]) rfl .of (@cm6 _ _ _ _ (@ad8 _ _ _ _ _ (@c5 _ _ _ _ _ (@bt2 _ _ _ _ _ _ bg4 (@g9 _ _ _ _)) (@c5 _ _ _ _ _ (pv 7) (@c5 _ _ _ _ _ (@i7 _ _ _ _ _ _ _ _ E7 (pv 7) (pv 3)) (@c5 _ _ _ _ _ (@i7 _ _ _ _ _ _ _ _ V0 (@bt2 _ _ _ _ _ _ bg4 (@g9 _ _ _ _)) (pv 3)) (@c6 _) (by rfl)) (by rfl)) (by rfl)) (by rfl)))) (fun _ _ _ _ _=>@j6 _ _ (0) _ au8 rfl (Or.inl rfl) (by first|exact .inl rfl|exact .inr rfl|assumption)) (fun _ _ _ _ _=>@ah2 _ _ _ (@j8 _ _ _ _ _ _ _ _ ap9 (@i8 _ _ _ _ _ _ _ _ _ _ c_law_nth hr_law_nth (@c5 _ _ _ _ _ (pv 1) (@c5 _ _ _ _ _ (pv 2) (@c5 _ _ _ _ _ (pv 0) (@c6 _) (by rfl)) (by rfl)) (by rfl)) (by rfl) (by decide) (by rfl) (by rfl)) (@ad7 _ _ _ _) (n5 _))) (fun _ _ _ _ _=>(pv 0)) (by intro _;rfl)) (@o8 _ _ _ _ (@c6 _)) (n5 _)) (@g6 _ _ _ (@l8 _ _ _ _ (@Q3 _ _ _ _))) (@o4 _)) (@c7 _ _ _ _ _ (@o6 _ _ _ _ _ _ _ _ PassesOwn.never rfl (@K3 _ _ _ _ _ _ (by rfl) B.range (@c5 _ _ _ _ _ (@g9 _ _ _ _) (@c6 _) (by rfl)) (by rfl)) (@j6 _ _ (8) _ G2.nd rfl (Or.inl rfl) (by first|exact .inl rfl|exact .inr rfl|assumption)) (@c7 _ _ _ _ _ (@i4 _ _ (9) _ _ _ _ G2.nd rfl (Or.inl rfl) (@i8 _ _ _ _ _ _ _ _ _ _ c_law_turn hr_law_turn (@c5 _ _ _ _ _ (pv 0) (@c5 _ _ _ _ _ (@x6 _ _ _ _ _ B.len (@c5 _ _ _ _ _ (pv 1) (@c6 _) (by rfl)) (by rfl) (by rfl)) (@c6 _) (by rfl)) (by rfl)) (by rfl) (by decide) (by rfl) (by rfl)) (by rfl) (by first|exact .inl rfl|exact .inr rfl|assumption)) (@c7 _ _ _ _ _ (@i4 _ _ (10) _ _ _ _ G2.nd rfl (Or.inl rfl) (@ad7 _ _ _ _) (by rfl) (by first|exact .inl rfl|exact .inr rfl|assumption)) (@c7 _ _ _ _ _ (@B5 _ _ _ _ _ _ _ _ (@j8 _ _ _ _ _ _ _ _ (do6 hu2) (pv 9) (pv 6) (by with_unfolding_all rfl)) (@g6 _ _ _ (@i4 _ _ (10) _ _ _ _ G2.nd rfl (Or.inl rfl) (br7 K hu3 (pv 6) (@c5 _ _ _ _ _ (pv 9) (@c6 _) (by rfl))) (by rfl) (by first|exact .inl rfl|exact .inr rfl|assumption))) (@o4 _)) (@c7 _ _ _ _ _ (@i4 _ _ (11) _ _ _ _ G2.nd rfl (Or.inl rfl) (@ad9 _ _ _ _ _ B.list (@c5 _ _ _ _ _ (pv 9) (@c6 _) (by rfl)) (by rfl) (by rfl)) (by rfl) (by first|exact .inl rfl|exact .inr rfl|assumption)) (@g6 _ _ _ (@B5 _ _ _ _ _ _ _ _ (@Q4 _ _ _ _ _ _ _ (@j8 _ _ _ _ _ _ _ _ ap9 (@i8 _ _ _ _ _ _ _ _ _ _ c_law_number hr_law_number (@c5 _ _ _ _ _ (pv 1) (@c5 _ _ _ _ _ (pv 2) (@c5 _ _ _ _ _ (pv 11) (@c6 _) (by rfl)) (by rfl)) (by rfl)) (by rfl) (by decide) (by rfl) (by rfl)) (pv 10) (n5 _)) (@Q4 _ _ _ _ _ _ _ (@j8 _ _ _ _ _ _ _ _ (an9 0 hu) (pv 1) (pv 4) (n5 _)) (@Z8 _ _ _ _ (@j8 _ _ _ _ _ _ _ _ (an9 0 hu) (pv 11) (pv 9) (n5 _))))).pt (@g6 _ _ _ (@l8 _ _ _ _ (@Q3 _ _ _ _))) (@o4 _))))))) (by intro _;rfl)) (@g6 _ _ _ (@l8 _ _ _ _ (@Q3 _ _ _ _))))))))))),?_⟩
   refine ds2 ?_;intros
   try dsimp only[x9,Cx.nox,Cx.wish]
   have tp:=ta.2.1;have l1:=ta.2.2;refine ⟨_,rfl,a,_,rfl,.inl (h8.of ta.1),fun ke hke=> ?_⟩;have s1:e8 H (c9 H ke (.lst (p.map V.int))):=e8.upd_new hke;have h1k:(c9 H ke (.lst (p.map V.int))) ke=some (.lst (p.map V.int)):=c8;generalize (c9 H ke (.lst (p.map V.int)))=H1 at s1 h1k ⊢;have nkg:ke≠g:=W8 D hke;refine ⟨_,rfl,_,rfl,a,p,m,rfl,ta.keep s1,m1,fun H2 s2=>⟨_,_,rfl,rfl,_,rfl,?_⟩⟩;have s02:=s1.trans s2;have h2k:=s2 _ _ h1k;have t2:C3 H2 a p:=ta.keep s02
   by_cases big:2000 < w9 p m
   · rw[decide_eq_true (show (2000:Int) < ((w9 p m:Nat):Int) by omega)];refine L9 ⟨_,rfl,_,rfl,_,rfl,a,p,m,-1,rfl,t2,m1,.inl ⟨big,fun H3 s3=> ?_⟩⟩;refine ⟨_,rfl,_,rfl,a,p,m,0,rfl,t2.keep s3,m1,.inl ⟨big,fun H4 s4=> ?_⟩⟩;have s24:=s3.trans s4;refine ⟨_,rfl,_,rfl,_,rfl,a,_,rfl,.inl (h8.of (t2.keep s24).1),fun c hc=> ?_⟩;have s5:e8 H4 (c9 H4 c (.lst (p.map V.int))):=e8.upd_new hc;have h5c:(c9 H4 c (.lst (p.map V.int))) c=some (.lst (p.map V.int)):=c8;generalize (c9 H4 c (.lst (p.map V.int)))=H5 at s5 h5c ⊢;have s25:=s24.trans s5;refine ⟨a,c,p,p,m,rfl,t2.keep s25,⟨h5c,ta.2⟩,rfl,m1,.inl ⟨big,fun H6 s6=> ?_⟩⟩;have s26:=s25.trans s6;refine ⟨(show 3<=sizeLine by decide),fun ww hww=> ?_⟩;have s7:e8 H6 (c9 H6 ww (.lst [.str "TooMany",.str "TooMany",.str "TooMany"])):=e8.upd_new hww;have h7w:(c9 H6 ww (.lst [.str "TooMany",.str "TooMany",.str "TooMany"])) ww=some (.lst [.str "TooMany",.str "TooMany",.str "TooMany"]):=c8;generalize (c9 H6 ww (.lst [.str "TooMany",.str "TooMany",.str "TooMany"]))=H7 at s7 h7w ⊢;refine ⟨_,rfl,(show 1<=sizeLine by decide),fun e1 he1=> ?_⟩;refine ⟨e1,3,_,rfl,rfl,c8,by decide,by decide,(show 3<=sizeLine by decide),fun e2 he2=> ?_⟩;have sw:=(e8.upd_new (o:= .lst [.str "TooMany"]) he1).trans (e8.upd_new (o:= .lst [.str "TooMany",.str "TooMany",.str "TooMany"]) he2);refine ⟨ww,e2,[.str "TooMany",.str "TooMany",.str "TooMany"],[.str "TooMany",.str "TooMany",.str "TooMany"],true,rfl,rfl,h8.of (sw _ _ h7w),h8.of c8,cc3 K _ _ _ rfl (by decide),true,rfl,L9 ?_⟩;have sa:=s26.trans (s7.trans sw);refine ⟨_,rfl,_,rfl,a,ke,_,_,_,rfl,rfl,h8.of (sa _ _ t2.1),h8.of (sa _ _ h2k),M7 _ _ _ _ _,?_⟩;rw[decide_eq_true rfl];exact q _ (Kp.of (ci2 ((s02.trans sa).but g)))
   rw[decide_eq_false (show ¬(2000:Int) < ((w9 p m:Nat):Int) by omega)];refine C0 ⟨_,rfl,_,rfl,a,p,m,rfl,t2,m1,by omega,fun o bs ts H3 ho h3o rows all bnd bfr ob kp=> ?_⟩;have k03:Kp H H3:=(Kp.of s02).trans kp
   have D3:B7 H3 g:=by
     obtain ⟨dd,e,r⟩:=D;exact ⟨dd,k03.lst e,r⟩
   have t3:C3 H3 a p:=⟨k03.lst ta.1,ta.2⟩;have h3k:=kp.lst h2k
   have ngo:o≠g:=fun z=>by obtain ⟨u,e⟩:=D.some;rw[z,s02 _ _ e] at ho;cases ho
   have ngb:∀x∈bs,x≠g:=fun x hx z=>by obtain ⟨u,e⟩:=D.some;have:=bfr x hx;rw[z,s02 _ _ e] at this;cases this
   refine ⟨_,rfl,a,_,rfl,.inl (h8.of t3.1),_,_,rfl,rfl,_,rfl,?_⟩
   refine do8 (fun σ' H'=>∃(d:Addr) (cs:List Addr),σ'=[some (.ref g),some (.ref a),some (.int (m:Int)),some (.int far),some (.ref ke),none,some (.ref d),none,none,none,none,none]/\H' d=some (.lst (cs.map V.ref))/\o3 H' cs ts/\d≠g/\(∀x∈cs,x≠g)/\e8 H3 H') ?_ ⟨o,bs,rfl,h3o,rows,ngo,ngb,e8.refl _⟩ fun hc rest=> ?_
   rotate_left
   · refine ⟨_,rfl,_,rfl,a,p,m,rfl,t3.1,tp,?_,m1,fun d cs us H4 hd s4 h4d rows4 eu lu frc=> ?_⟩
     · have:=of_decide_eq_true hc;rw[dz0] at this;omega
     · have e:=eu ts all;rw[e] at rows4;exact rest _ _ ⟨d,cs,rfl,h4d,rows4,W8 D3 hd,fun x hx=>W8 D3 (frc x hx),s4⟩
   rintro σ' H4 ⟨d,cs,rfl,h4d,rows4,ndg,ncg,s34⟩;have k04:Kp H H4:=k03.trans (Kp.of s34);have D4:=D3.same s34;have t4:=t3.keep s34;have h4k:=s34 _ _ h3k;have lts:=all.len
   have lcs:cs.length=w9 p m:=by rw[rows4.1,lts]
   refine ⟨_,rfl,d,_,rfl,.inl (h8.of h4d),?_⟩;rw[dz0,lcs];refine ⟨_,rfl,a,_,rfl,.inl (h8.of t4.1),_,_,rfl,rfl,_,rfl,?_⟩;refine ds9 ?_ (fun hc rest=> ?_)
   rotate_left
   · refine ⟨_,rfl,_,_,rfl,rfl,_,rfl,?_⟩
     by_cases c2:200 < w9 p m
     · rw[decide_eq_true (show (200:Int) < ((w9 p m:Nat):Int) by omega)];refine L9 ⟨_,rfl,_,rfl,_,rfl,_,rfl,g,rfl,D4,fun x1 H5 x10 D5 kb5=>⟨_,rfl,_,_,rfl,rfl,(by show (0:Int) < ((w9 p m:Nat):Int);omega),?_⟩⟩;have c1:=ee6 x1 (show ((w9 p m:Nat):Int)≠0 by omega);have c3:=eh0 x1 (show (0:Int) < ((w9 p m:Nat):Int) by omega);obtain ⟨j,hj⟩:=ej1 c1;have rows5:o3 H5 cs ts:=⟨rows4.1,fun j b r e1 e2=>kb5 _ _ (rows4.2 j b r e1 e2) (ncg b (dz8 e1))⟩;refine ⟨a,d,p,cs,ts,m,j,by rw[<-Int.ofNat_eq_natCast,<-hj];rfl,⟨kb5 _ _ t4.1 nag,ta.2⟩,m1,by omega,kb5 _ _ h4d ndg,rows5,all,by omega,fun H6 k6=>⟨true,rfl,L9 ?_⟩⟩;refine ⟨_,rfl,_,rfl,a,ke,_,_,_,rfl,rfl,h8.of (k6.lst (kb5 _ _ t4.1 nag)),h8.of (k6.lst (kb5 _ _ h4k nkg)),M7 _ _ _ _ _,?_⟩;rw[decide_eq_true rfl];exact q H6 ((((Kp.into H g).trans k04).kb (al0 H g) kb5).trans k6)
     · rw[decide_eq_false (show ¬(200:Int) < ((w9 p m:Nat):Int) by omega)];exact C0 rest
   have k4h:Kp (R7 H g g) H4:=(Kp.into H g).trans k04;refine ⟨_,rfl,g,rfl,D4,fun x1 H5 x10 D5 kb5=> ?_⟩;have k5h:=k4h.kb (al0 H g) kb5;have rows5:o3 H5 cs ts:=⟨rows4.1,fun j b r e1 e2=>kb5 _ _ (rows4.2 j b r e1 e2) (ncg b (dz8 e1))⟩;have h5d:=kb5 _ _ h4d ndg;have h5k:=kb5 _ _ h4k nkg;have t5:C3 H5 a p:=⟨kb5 _ _ t4.1 nag,ta.2⟩;refine ⟨_,rfl,1,_,rfl,?_⟩
   obtain ⟨mv,hmv,hmv1,hmv2⟩:∃mv:Int,(if ((w9 p m:Nat):Int) > 1 then ((w9 p m:Nat):Int) else (1:Int))=mv/\1<=mv/\(0 < w9 p m->mv=((w9 p m:Nat):Int)):=by
     by_cases c:((w9 p m:Nat):Int) > 1
     · exact ⟨_,rfl,by rw[if_pos c];omega,fun _=>by rw[if_pos c]⟩
     · exact ⟨_,rfl,by rw[if_neg c];omega,fun z=>by rw[if_neg c];omega⟩
   rw[hmv];refine ⟨_,_,rfl,rfl,(show (0:Int) < mv by omega),?_⟩;refine ⟨_,rfl,_,_,rfl,rfl,(show 2<=sizeLine by decide),fun e he=> ?_⟩;have nge:e≠g:=W8 D5 he;refine ⟨_,rfl,g,rfl,cc2 D5 nge.symm,fun x2 H6 x20 D6 kb6=>⟨_,_,rfl,rfl,(by show (0:Int) < 2;decide),?_⟩⟩;have h6e:=kb6 e _ c8 nge;have kb56:j5 g H5 H6:=((e8.upd_new he).but g).trans kb6
   obtain ⟨yv,hat,hyv⟩:∃yv:Int,atI [V.int 0,V.int (((w9 p m:Nat):Int) - 1)] (x2%2)=some (.int yv)/\(0 < w9 p m->0<=yv/\yv < ((w9 p m:Nat):Int)):=by
     rcases (show x2%2=0\/x2%2=1 by omega) with e|e
     · rw[e];exact ⟨0,G9 (j:=0) rfl,fun z=>by omega⟩
     · rw[e];exact ⟨_,G9 (j:=1) rfl,fun z=>by omega⟩
   refine ⟨e,_,_,_,rfl,rfl,h8.of h6e,hat,(show 2<=sizeLine by decide),fun l hl=> ?_⟩;have ngl:l≠g:=W8 D6 hl;have c1:=ee6 x1 (show mv≠0 by omega);have c3:=eh0 x1 (show (0:Int) < mv by omega);obtain ⟨xv,hxv⟩:∃xv:Int,xv=x1%mv:=⟨_,rfl⟩;rw[<-hxv] at c1 c3;obtain ⟨H7,e7⟩:∃Hn,Hn=c9 H6 l (.lst [V.int (x1%mv),V.int yv]):=⟨_,rfl⟩;have s7:e8 H6 H7:=e7▸e8.upd_new hl
   have h7l:H7 l=some (.lst (([xv,yv]:List Int).map V.int)):=by rw[e7,c8,hxv];rfl
   rw[<-e7];clear e7;have kb57:j5 g H5 H7:=kb56.trans (s7.but g);refine ⟨_,rfl,_,_,rfl,rfl,?_,((2*w9 p m:Nat):Int),?_,l,_,rfl,h8.of h7l,fun l2 hl2=> ?_⟩
   · exact .inl ⟨by decide,by decide⟩
   · exact congrArg V.int (by omega)
   rw[dh9,<-et2];obtain ⟨ms,hms⟩:∃ms:List Int,ms=([xv,yv]:List Int).take (min (2*w9 p m) (([xv,yv]:List Int).map V.int).length):=⟨_,rfl⟩;rw[<-hms]
   have hin:∀z∈ms,0<=z/\z < ((w9 p m:Nat):Int):=fun z hz=>by
     by_cases c:w9 p m=0
     · rw[hms,c] at hz;cases hz
     · have hz:=ef0 (hms▸hz);have b1:=hmv2 (by omega);have b2:=hyv (by omega)
       rcases ea8.mp hz with w|w
       · omega
       · rw[ea1.mp w];exact b2
   have s8:e8 H7 (c9 H7 l2 (.lst (ms.map V.int))):=e8.upd_new hl2;have h8l:(c9 H7 l2 (.lst (ms.map V.int))) l2=some (.lst (ms.map V.int)):=c8;generalize (c9 H7 l2 (.lst (ms.map V.int)))=H8 at s8 h8l ⊢;have kb58:j5 g H5 H8:=kb57.trans (s8.but g);have k8h:=k5h.kb (al0 H g) kb58;have rows8:o3 H8 cs ts:=⟨rows5.1,fun j b r e1 e2=>kb58 _ _ (rows5.2 j b r e1 e2) (ncg b (dz8 e1))⟩;have h8d:=kb58 _ _ h5d ndg;have h8k:=kb58 _ _ h5k nkg;have t8:C3 H8 a p:=⟨kb58 _ _ t5.1 nag,ta.2⟩;have D8:B7 H8 g:=(D6.same s7).same s8;clear hms hmv hmv2 hyv hat h6e s7 h7l kb57 kb56 kb6 D6 kb5 D5 k5h rows5 h5d h5k t5 kb58 c1 c3 hxv he hl hl2
   refine ⟨l2,rfl,⟨_,h8.of h8l⟩,K1 (K:=K) (a:=l2) (xs:=ms.map V.int) (fun j σ H9=>∃v8:Option V,σ=[some (.ref g),some (.ref a),some (.int (m:Int)),some (.int far),some (.ref ke),none,some (.ref d),some (.int ((w9 p m:Nat):Int)),v8,none,none,none]/\Kp H8 H9)
     ⟨none,rfl,Kp.refl H8⟩ (fun j σ H9 _ ⟨_,_,k⟩=>h8.of (k.lst h8l)) ?_ ?_⟩
   · rintro j v σ H9 hj ⟨v8,rfl,k9⟩;obtain ⟨z,hz,rfl⟩:=O0 hj;obtain ⟨z0,z1⟩:=hin z (dz8 hz);obtain ⟨n,rfl⟩:=ej1 z0;refine ⟨_,rfl,_,rfl,_,rfl,_,rfl,a,d,p,cs,ts,m,n,rfl,⟨k9.lst t8.1,ta.2⟩,m1,by omega,k9.lst h8d,k9.rows rows8,all,by omega,fun H10 k10=>⟨true,rfl,C0 ?_⟩⟩;exact ⟨_,rfl,k9.trans k10⟩
   rintro σ H9 ⟨v8,rfl,k9⟩;have t9:C3 H9 a p:=⟨k9.lst t8.1,ta.2⟩;refine ⟨_,rfl,_,rfl,_,rfl,_,rfl,_,_,rfl,rfl,_,rfl,_,rfl,_,_,rfl,rfl,(show 4<=sizeLine by decide),fun tt htt=> ?_⟩;obtain ⟨H10,e10⟩:∃Hn,Hn=c9 H9 tt (.tup [V.int (-1),V.int ((w9 p m:Nat):Int),V.int (((w9 p m:Nat):Int)+far),V.int (-1 - far)]):=⟨_,rfl⟩;have s10:e8 H9 H10:=e10▸e8.upd_new htt
   have h10t:H10 tt=some (.tup (([-1,((w9 p m:Nat):Int),((w9 p m:Nat):Int)+far,-1 - far]:List Int).map V.int)):=by rw[e10,c8];rfl
   rw[<-e10];clear e10
   refine ⟨tt,rfl,⟨_,O3.of h10t⟩,cx3 (K:=K) (a:=tt) (xs:=([-1,((w9 p m:Nat):Int),((w9 p m:Nat):Int)+far,-1 - far]:List Int).map V.int) (fun i ys σ H11=>∃v0:Option V,σ=[v0,some (.ref a),some (.int (m:Int))]/\ys=[]/\Kp H10 H11)
     ⟨none,rfl,rfl,Kp.refl H10⟩ (fun i ys σ H11 _ ⟨_,_,_,k⟩=>O3.of (k.nd _ _ h10t (fun kvs z=>by cases z))) ?_ ?_⟩
   · rintro i y ys σ H11 hi ⟨v0,rfl,rfl,k11⟩;obtain ⟨y,hy,rfl⟩:=O0 hi
     have hy:y < 0\/((w9 p m:Nat):Int)<=y:=by
       have:=dz8 hy;simp only[ea8,et9,or_false] at this;omega
     refine ⟨_,rfl,_,rfl,_,rfl,a,p,m,y,rfl,⟨k11.lst (s10 _ _ t9.1),ta.2⟩,m1,.inr (.inl ⟨by omega,hy,fun H12 k12=>⟨rfl,_,rfl,C0 ?_⟩⟩)⟩;exact ⟨_,rfl,rfl,k11.trans k12⟩
   rintro ys σ H11 ⟨v0,rfl,rfl,k11⟩ w1 hw1;have s12:e8 H11 (c9 H11 w1 (.lst [])):=e8.upd_new hw1;have h12w:(c9 H11 w1 (.lst [])) w1=some (.lst []):=c8;generalize (c9 H11 w1 (.lst []))=H12 at s12 h12w ⊢;refine ⟨eb4 _,fun w2 hw2=> ?_⟩;have s13:e8 H12 (c9 H12 w2 (.lst [])):=e8.upd_new hw2;have h13w:(c9 H12 w2 (.lst [])) w2=some (.lst []):=c8;generalize (c9 H12 w2 (.lst []))=H13 at s13 h13w ⊢;refine ⟨w1,w2,[],[],true,rfl,rfl,h8.of (s13 _ _ h12w),h8.of h13w,cc3 K _ _ _ rfl (by decide),_,rfl,C0 ?_⟩;have k813:Kp H8 H13:=((k9.trans (Kp.of s10)).trans k11).trans (Kp.of (s12.trans s13));have h13d:=k813.lst h8d;have rows13:=k813.rows rows8;have h13k:=k813.lst h8k;have t13:C3 H13 a p:=⟨k813.lst t8.1,ta.2⟩
   have D13:B7 H13 g:=by
     obtain ⟨dd,e,r⟩:=D8;exact ⟨dd,k813.lst e,r⟩
   have k13h:=k8h.trans k813;clear s12 s13 h12w h13w k11 s10 h10t k9 t9
   refine ⟨2,rfl,by decide,by decide,E3 (lo:=0) (n:=(2:Int).toNat) (fun i σ H14=>∃v8 v9 v10 v11:Option V,σ=[some (.ref g),some (.ref a),some (.int (m:Int)),some (.int far),some (.ref ke),none,some (.ref d),some (.int ((w9 p m:Nat):Int)),v8,v9,v10,v11]/\Kp (R7 H13 g g) H14/\B7 H14 g)
     ⟨_,_,_,_,rfl,Kp.into H13 g,D13⟩ ?_ (fun σ H14 ⟨_,_,_,_,_,k14,_⟩=> ?_)⟩
   · rintro i σ H14 hi ⟨v8',v9,v10,v11,rfl,k14,D14⟩;have h14d:=k14.lst (U2 h13d ndg);have rows14:o3 H14 cs ts:=⟨rows13.1,fun j b r e1 e2=>k14.lst (U2 (rows13.2 j b r e1 e2) (ncg b (dz8 e1)))⟩;have h14k:=k14.lst (U2 h13k nkg);have t14:C3 H14 a p:=⟨k14.lst (U2 t13.1 nag),ta.2⟩;refine ⟨_,rfl,_,rfl,a,_,rfl,.inl (h8.of t14.1),g,p.length,by rw[dz0];rfl,D14,l1,fun oa r H15 hoa tr lr h15o D15 kb15=> ?_⟩;have nog:oa≠g:=W8 D14 hoa;have k15:=k14.kb (al0 H13 g) kb15;have h15d:=kb15 _ _ h14d ndg;have rows15:o3 H15 cs ts:=⟨rows14.1,fun j b r e1 e2=>kb15 _ _ (rows14.2 j b r e1 e2) (ncg b (dz8 e1))⟩;have h15k:=kb15 _ _ h14k nkg;have t15:C3 H15 a p:=⟨kb15 _ _ t14.1 nag,ta.2⟩;refine ⟨_,rfl,_,rfl,d,oa,cs,ts,r,rfl,rfl,h8.of h15d,rows15,h15o,_,rfl,?_⟩
     refine dt0 (fun σ' H'=>∃wv:V,σ'=[some (.ref g),some (.ref a),some (.int (m:Int)),some (.int far),some (.ref ke),none,some (.ref d),some (.int ((w9 p m:Nat):Int)),some (.int ((0:Int)+(i:Int))),some (.ref oa),some wv,v11]/\H'=H15/\((¬D0 r (m:Int) p/\wv= .str "NoRoot")\/∃j:Nat,D0 r (m:Int) p/\ts[j]? =some r/\wv= .int (j:Int))) ?_ (fun hc=>⟨_,rfl,rfl,.inl ⟨fun pw=> ?_,rfl⟩⟩) fun hc rest=> ?_
     rotate_left
     · exact of_decide_eq_false hc ((all.mem tp l1 m1).mpr ⟨tr,pw⟩)
     · have rin:=of_decide_eq_true hc;obtain ⟨j,hj⟩:=ec1.mp rin;refine ⟨_,rfl,.inl ⟨rfl,_,h8.of h15d⟩,_,rfl,d,oa,cs,ts,r,j,rfl,rfl,h15d,rows15,h15o,hj,fun i hi e=> ?_,by omega,?_⟩
       · have nd:=ea7.mp (all.nd tp l1 m1);obtain ⟨j1,j2⟩:=dz2.mp hj;obtain ⟨i1,i2⟩:=dz2.mp e;exact eb7.mp nd i j i1 j1 hi (by rw[i2,j2])
       · exact rest _ _ ⟨_,rfl,rfl,.inr ⟨j,(all.root tp l1 m1 r rin).2,hj,rfl⟩⟩
     rintro σ' H' ⟨wv,rfl,rfl,hw⟩;refine ⟨_,rfl,oa,_,rfl,.inl (h8.of h15o),fun ha hha=> ?_⟩;have s16:e8 H' (c9 H' ha (.lst (r.map V.int))):=e8.upd_new hha;have h16:(c9 H' ha (.lst (r.map V.int))) ha=some (.lst (r.map V.int)):=c8;generalize (c9 H' ha (.lst (r.map V.int)))=H16 at s16 h16 ⊢;have t16:=t15.keep s16;have D16:=D15.same s16;have h16o:=s16 _ _ h15o;have h16k:=s16 _ _ h15k;have k16:=k15.trans (Kp.of s16)
     rcases hw with ⟨nr,rfl⟩|⟨j,pw,hj,rfl⟩
     · refine ⟨_,rfl,_,rfl,_,rfl,a,ha,p,r,m,rfl,t16,⟨h16,tr,by omega⟩,by omega,m1,.inr (.inl ⟨by omega,nr,fun H17 k17=>⟨_,rfl,rfl,_,rfl,ba2 rfl ?_⟩⟩)⟩;refine ⟨_,rfl,_,rfl,a,ke,_,_,_,rfl,rfl,h8.of (k17.lst t16.1),h8.of (k17.lst h16k),M7 _ _ _ _ _,_,rfl,?_⟩;rw[decide_eq_true rfl];refine C0 ⟨_,rfl,_,rfl,ha,oa,_,_,_,rfl,rfl,h8.of (k17.lst h16),h8.of (k17.lst h16o),M7 _ _ _ _ _,_,rfl,?_⟩;rw[decide_eq_true rfl];refine C0 ⟨_,_,_,_,rfl,k16.trans k17,?_⟩;obtain ⟨dd,e,r'⟩:=D16;exact ⟨dd,k17.lst e,r'⟩
     · refine ⟨_,rfl,_,rfl,_,rfl,a,ha,p,r,m,rfl,t16,⟨h16,tr,by omega⟩,by omega,m1,.inr (.inr ⟨by omega,pw,fun j2 us H17 al e2 k17=>⟨_,rfl,rfl,_,rfl,?_⟩⟩)⟩;have eu:=al.uniq all tp l1 m1;rw[eu] at e2
       have ej:j2=j:=by
         have nd:=ea7.mp (all.nd tp l1 m1);obtain ⟨a1,a2⟩:=dz2.mp e2;obtain ⟨b1,b2⟩:=dz2.mp hj
         rcases es7 j2 j with z|z|z
         · exact (eb7.mp nd j2 j a1 b1 z (by rw[a2,b2])).elim
         · exact z
         · exact (eb7.mp nd j j2 b1 a1 z (by rw[a2,b2])).elim
       subst ej;refine ba2 rfl ?_;refine ⟨_,rfl,_,rfl,a,ke,_,_,_,rfl,rfl,h8.of (k17.lst t16.1),h8.of (k17.lst h16k),M7 _ _ _ _ _,_,rfl,?_⟩;rw[decide_eq_true rfl];refine C0 ⟨_,rfl,_,rfl,ha,oa,_,_,_,rfl,rfl,h8.of (k17.lst h16),h8.of (k17.lst h16o),M7 _ _ _ _ _,_,rfl,?_⟩;rw[decide_eq_true rfl];refine C0 ⟨_,_,_,_,rfl,k16.trans k17,?_⟩;obtain ⟨dd,e,r'⟩:=D16;exact ⟨dd,k17.lst e,r'⟩
   · have kk:=k13h.hol2 (g:=g);rw[cl7] at kk;exact q H14 (kk.trans k14)
def bu0 (K:PySem.W.Frag):Sp:=fun vs H Q _=>∃(a:Addr) (ns:List Int),vs=[.ref a]/\h8 K H a (ns.map V.int)/\ns.length<=63/\∀H',Q (.bl true) H'
theorem at5 (x:Int):∃b:Nat,atI (([7,7,11,17,41]:List Int).map V.int) (x%5)=some (.int (b:Int))/\1<=b/\b<=41:=by
 rcases (show x%5=0\/x%5=1\/x%5=2\/x%5=3\/x%5=4 by omega) with e|e|e|e|e<;>rw[e]
 · exact ⟨7,G9 (j:=0) rfl,by decide,by decide⟩
 · exact ⟨7,G9 (j:=1) rfl,by decide,by decide⟩
 · exact ⟨11,G9 (j:=2) rfl,by decide,by decide⟩
 · exact ⟨17,G9 (j:=3) rfl,by decide,by decide⟩
 · exact ⟨41,G9 (j:=4) rfl,by decide,by decide⟩
theorem af0:m9 ["script","k","cell","deck","many","m","p"] ["script"] (j7 ba9):=⟨rfl,rfl,rfl,by decide+kernel,rfl,by decide+kernel,by decide+kernel⟩
theorem do9 {f:Addr}{fd:FuncData}(F:C7 K "law" "law" ba9 f fd)(B:Bl mg)(c_law_cell_at:n0 P w K mg base "_law_cell_at" 1 ["script","k"] (bz2 K))(c_law_deck:n0 P w K mg base "_law_deck" 2 ["cell","many"] bz5)(c_law_next:n0 P w K mg base "_law_next" 1 ["deck"] ap0)(c_law_m:n0 P w K mg base "_law_m" 2 ["deck"] spM)(c_law_turn:n0 P w K mg base "_law_turn" 2 ["deck","many"] bb2)(c_law_power:n0 P w K mg base "_law_power" 2 ["p","m"] bb0)(c_law_right:n0 P w K mg base "_law_right" 48 ["deck","p","m","far"] az6):n6 P w K mg base E9 49 f fd ["script"] (bu0 K):=by
 refine F.ok af0 (fun vs H Q E h=> ?_) (fun cdv A outer s H vs Q E hr h=> ?_)
 · obtain ⟨sc,ns,rfl,hsc,hns,q⟩:=h;rfl
 · obtain ⟨sc,ns,rfl,hsc,hns,q⟩:=h;have hr_law_cell_at:l9 1 _:=hr.mono (by decide);have hr_law_deck:l9 2 _:=hr.mono (by decide);have hr_law_next:l9 1 _:=hr.mono (by decide);have hr_law_m:l9 2 _:=hr.mono (by decide);have hr_law_turn:l9 2 _:=hr.mono (by decide);have hr_law_power:l9 2 _:=hr.mono (by decide);have hr_law_right:l9 48 _:=hr.mono (by decide);refine ⟨_,@c7 _ _ _ _ _ (@o6 _ _ _ _ _ _ _ _ PassesOwn.never rfl (@K3 _ _ _ _ _ _ (by rfl) B.range (@c5 _ _ _ _ _ (@ce9 _ _ _ _ _ _ rfl B.max (@c5 _ _ _ _ _ (@g9 _ _ _ _) (@c5 _ _ _ _ _ (@ce8 _ _ _ _ _ _ rfl B.min (@c5 _ _ _ _ _ (@x6 _ _ _ _ _ B.len (@c5 _ _ _ _ _ (pv 0) (@c6 _) (by rfl)) (by rfl) (by rfl)) (@c5 _ _ _ _ _ (@g9 _ _ _ _) (@c6 _) (by rfl)) (by rfl)) (by rfl) (by rfl) (by rfl)) (@c6 _) (by rfl)) (by rfl)) (by rfl) (by rfl) (by rfl)) (@c6 _) (by rfl)) (by rfl)) (@j6 _ _ (1) _ af0.nd rfl (Or.inl rfl) (by first|exact .inl rfl|exact .inr rfl|assumption)) (@c7 _ _ _ _ _ (@i4 _ _ (2) _ _ _ _ af0.nd rfl (Or.inl rfl) (@i8 _ _ _ _ _ _ _ _ _ _ c_law_cell_at hr_law_cell_at (@c5 _ _ _ _ _ (pv 0) (@c5 _ _ _ _ _ (pv 1) (@c6 _) (by rfl)) (by rfl)) (by rfl) (by decide) (by rfl) (by rfl)) (by rfl) (by first|exact .inl rfl|exact .inr rfl|assumption)) (@c7 _ _ _ _ _ (@i4 _ _ (3) _ _ _ _ af0.nd rfl (Or.inl rfl) (@i8 _ _ _ _ _ _ _ _ _ _ c_law_deck hr_law_deck (@c5 _ _ _ _ _ (pv 2) (@c5 _ _ _ _ _ (@g9 _ _ _ _) (@c6 _) (by rfl)) (by rfl)) (by rfl) (by decide) (by rfl) (by rfl)) (by rfl) (by first|exact .inl rfl|exact .inr rfl|assumption)) (@c7 _ _ _ _ _ (@i4 _ _ (4) _ _ _ _ af0.nd rfl (Or.inl rfl) (@i7 _ _ _ _ _ _ _ _ C6 (@i8 _ _ _ _ _ _ _ _ _ _ c_law_next hr_law_next (@c5 _ _ _ _ _ (pv 3) (@c6 _) (by rfl)) (by rfl) (by decide) (by rfl) (by rfl)) (@J9 _ _ _ _ _ _ _ C5 (@cx0 _ _ _ [7,7,11,17,41] rfl) (@i7 _ _ _ _ _ _ _ _ C6 (@i8 _ _ _ _ _ _ _ _ _ _ c_law_next hr_law_next (@c5 _ _ _ _ _ (pv 3) (@c6 _) (by rfl)) (by rfl) (by decide) (by rfl) (by rfl)) (@g9 _ _ _ _)) (fun _ _=>rfl))) (by rfl) (by first|exact .inl rfl|exact .inr rfl|assumption)) (@c7 _ _ _ _ _ (@i4 _ _ (5) _ _ _ _ af0.nd rfl (Or.inl rfl) (@i8 _ _ _ _ _ _ _ _ _ _ c_law_m hr_law_m (@c5 _ _ _ _ _ (pv 3) (@c6 _) (by rfl)) (by rfl) (by decide) (by rfl) (by rfl)) (by rfl) (by first|exact .inl rfl|exact .inr rfl|assumption)) (@c7 _ _ _ _ _ (@i4 _ _ (6) _ _ _ _ af0.nd rfl (Or.inl rfl) (@i8 _ _ _ _ _ _ _ _ _ _ c_law_turn hr_law_turn (@c5 _ _ _ _ _ (pv 3) (@c5 _ _ _ _ _ (pv 4) (@c6 _) (by rfl)) (by rfl)) (by rfl) (by decide) (by rfl) (by rfl)) (by rfl) (by first|exact .inl rfl|exact .inr rfl|assumption)) (@c7 _ _ _ _ _ (@B5 _ _ _ _ _ _ _ _ (@j8 _ _ _ _ _ _ _ _ ad0 (@i7 _ _ _ _ _ _ _ _ C6 (@i8 _ _ _ _ _ _ _ _ _ _ c_law_next hr_law_next (@c5 _ _ _ _ _ (pv 3) (@c6 _) (by rfl)) (by rfl) (by decide) (by rfl) (by rfl)) (@g9 _ _ _ _)) (@g9 _ _ _ _) (n5 _)) (@g6 _ _ _ (@i4 _ _ (6) _ _ _ _ af0.nd rfl (Or.inl rfl) (@i8 _ _ _ _ _ _ _ _ _ _ c_law_power hr_law_power (@c5 _ _ _ _ _ (pv 6) (@c5 _ _ _ _ _ (pv 5) (@c6 _) (by rfl)) (by rfl)) (by rfl) (by decide) (by rfl) (by rfl)) (by rfl) (by first|exact .inl rfl|exact .inr rfl|assumption))) (@o4 _)) (@g6 _ _ _ (@B5 _ _ _ _ _ _ _ _ (@U9 _ _ _ _ (@S6 _ _ _ (@i8 _ _ _ _ _ _ _ _ _ _ c_law_right hr_law_right (@c5 _ _ _ _ _ (pv 3) (@c5 _ _ _ _ _ (pv 6) (@c5 _ _ _ _ _ (pv 5) (@c5 _ _ _ _ _ (@i7 _ _ _ _ _ _ _ _ C6 (pv 2) (@i7 _ _ _ _ _ _ _ _ V0 (@i7 _ _ _ _ _ _ _ _ bu6 (@g9 _ _ _ _) (@g9 _ _ _ _)) (@g9 _ _ _ _))) (@c6 _) (by rfl)) (by rfl)) (by rfl)) (by rfl)) (by rfl) (by decide) (by rfl) (by rfl)) (by intro _;rfl))) (@g6 _ _ _ (@l8 _ _ _ _ (@Q3 _ _ _ _))) (@o4 _))))))))) (by intro _;rfl)) (@g6 _ _ _ (@l8 _ _ _ _ (@Q3 _ _ _ _))),?_⟩
   try dsimp only[x9,Cx.nox,Cx.wish]
   refine ⟨_,rfl,sc,_,rfl,.inl hsc,_,2,rfl,1,_,rfl,_,rfl,?_⟩;obtain ⟨mx,hmx,hm1,hm2⟩:=dl3 (n:=2) (c:=((ns.map V.int).length:Int)) (by decide) (by omega);rw[hmx]
   refine ⟨by omega,by omega,E3 (lo:=0) (n:=mx.toNat) (fun i σ H2=>∃v1 v2 v3 v4 v5 v6:Option V,σ=[some (.ref sc),v1,v2,v3,v4,v5,v6]/\Kp H H2)
     ⟨none,none,none,none,none,none,rfl,Kp.refl H⟩ ?_ (fun σ H2 ⟨_,_,_,_,_,_,_,_⟩=>q H2)⟩
   rintro i σ H2 hi ⟨v1,v2,v3,v4,v5,v6,rfl,k02⟩;refine ⟨_,rfl,_,rfl,sc,ns,_,rfl,k02.seq hsc,by omega,fun z=> ?_⟩;refine ⟨_,rfl,z,220,rfl,by decide,fun g H3 hg s03 D3=> ?_⟩;refine ⟨_,rfl,g,rfl,D3,fun x1 H4 x10 D4 kb4=> ?_⟩;have s04:e8 H2 H4:=s03.kb kb4 hg;refine ⟨(by show 5<=sizeLine;decide),fun e he=> ?_⟩;have nge:e≠g:=W8 D4 he;refine ⟨_,rfl,g,rfl,cc2 D4 nge.symm,fun x2 H5 x20 D5 kb5=>⟨_,_,rfl,rfl,(by show (0:Int) < 5;decide),?_⟩⟩;have h5e:=kb5 e _ c8 nge;have s05:e8 H2 H5:=(s04.upd_r (s04.free he)).kb kb5 hg;obtain ⟨bv,hat,bv1,bv2⟩:=at5 x2;refine ⟨e,_,_,_,rfl,rfl,h8.of h5e,hat,_,_,rfl,rfl,(show (0:Int) < (bv:Int) by omega),?_⟩;have c1:=ee6 x1 (show (bv:Int)≠0 by omega);have c2:=eh0 x1 (show (0:Int) < (bv:Int) by omega);obtain ⟨n,hn⟩:=ej1 c1;have en:(n:Int)=x1%(bv:Int):=hn.symm;refine ⟨_,rfl,g,rfl,D5,fun m H6 m1 m2 D6 kb6=> ?_⟩;have s06:=s05.kb kb6 hg;refine ⟨_,rfl,_,rfl,g,n,by rw[en];rfl,D6,by omega,fun pa0 p0 H8 hpa tp0 lp0 h8p D8 kb8=> ?_⟩;have s08:=s06.kb kb8 hg;have npg:pa0≠g:=W8 D6 hpa;refine ⟨_,rfl,g,rfl,D8,fun x5 H9 x50 D9 kb9=>⟨_,_,rfl,rfl,(by show (0:Int) < 2;decide),rfl,_,rfl,?_⟩⟩;have s09:=s08.kb kb9 hg;have h9p:=kb9 _ _ h8p npg
   refine ds8 (fun σ' H'=>∃(pa:Addr) (p:List Int),σ'=[some (.ref sc),some (.int ((0:Int)+(i:Int))),some (.int z),some (.ref g),some (.int (n:Int)),some (.int (m:Int)),some (.ref pa)]/\C3 H' pa p/\pa≠g/\B7 H' g/\e8 H2 H') ?_ ⟨pa0,p0,by rw[en];rfl,⟨h9p,tp0,by omega⟩,npg,D9,s09⟩ fun rest=> ?_
   rotate_left
   · refine ⟨_,rfl,_,rfl,pa0,p0,(m:Int),rfl,⟨h9p,tp0,by omega⟩,fun qa t2 H11 hqa s11 pw h11=> ?_⟩;have lt2:t2.length=p0.length:=pw.1;exact rest _ _ ⟨qa,t2,by rw[en];rfl,⟨h11,dd2 tp0 pw,by omega⟩,W8 D9 hqa,D9.same s11,s09.trans s11⟩
   rintro σ' H10 ⟨pa,p,rfl,tp,npa,D10,s010⟩;refine ⟨_,rfl,_,rfl,_,rfl,_,rfl,_,_,rfl,rfl,⟨by decide,by decide,by decide⟩,_,_,rfl,rfl,_,_,rfl,rfl,(show (0:Int) < 10^(30:Int).toNat - 2001 by decide),g,pa,p,m,_,rfl,D10,npa,tp,m1,ee6 z (show (10^(30:Int).toNat - 2001:Int)≠0 by decide),fun H11 k11=>⟨true,rfl,C0 ?_⟩⟩
   have sh:e8 H2 (R7 H10 g g):=fun b u e=>U2 (s010 _ _ e) (fun z=>by rw[z,hg] at e;cases e)
   exact ⟨_,_,_,_,_,_,rfl,(k02.trans (Kp.of sh)).trans k11⟩
end
end My
namespace My
local macro_rules|`(tactic|omega)=>`(tactic|lia)
open PySem L2 Mth
theorem dy7 {l:PySem.W.OpenLaw}{w:World}{K:PySem.W.Frag}{h:Heap}{mg:Str->Option Value}{fa f0 f1 f2 f3 f4 f5 f6 f7 f8 f9 f10 f11 f12 f13 f14 f15 f16 f17 f18 f19 f20 f21 f22 f23 f24 f25 f26 f27 f28 f29 f30 f31 f32 f33 f34 f35 f36 f37 f38 f39 f40 f41 f42:Addr}{q_TurnError q_NoTurn q_NoFit q_NoRounds q_NoNumber q_NoRoot q_TooMany q_NoKind q_NoText q_NoName q_NoRow:Addr}{tk0 tk1:Tok}(X:K.In h)(G:h.Ns mainGlobals mg)(hfa:mg "law"=some (.ref fa))
   (u0:Fu K "is_whole" as4 f0)
   (u1:Fu K "must_be_from_one" V5 f1)
   (u2:Fu K "must_be_few" X8 f2)
   (u3:Fu K "greatest_part" aa2 f3)
   (u4:Fu K "walk_ring" al8 f4)
   (u5:Fu K "walk_rings" ai2 f5)
   (u6:Fu K "send_along" V6 f6)
   (u7:Fu K "sort_by_length" Y5 f7)
   (u8:Fu K "picks_of" as5 f8)
   (u9:Fu K "lay_every_way" aa3 f9)
   (u10:Fu K "is_turn" ax9 f10)
   (u11:Fu K "must_be_turn" ac5 f11)
   (u12:Fu K "must_fit" as6 f12)
   (u13:Fu K "join_rings" ai3 f13)
   (u14:Fu K "right_numbers" aa4 f14)
   (u15:Fu K "ways_to_follow" Y6 f15)
   (u16:Fu K "count_joins" af1 f16)
   (u17:Fu K "how_many_roots" Y7 f17)
   (u18:Fu K "chains_of" al9 f18)
   (u19:Fu K "ways_to_join" W3 f19)
   (u20:Fu K "all_roots" ad4 f20)
   (u21:Fu K "nth_root" ag0 f21)
   (u22:Fu K "number_of_root" S1 f22)
   (u23:Fu K "_law_cell_at" af2 f23)
   (u24:Fu K "_law_stir" as7 f24)
   (u25:Fu K "_law_deck" as8 f25)
   (u26:Fu K "_law_next" as9 f26)
   (u27:Fu K "_law_turn" at1 f27)
   (u28:Fu K "_law_m" bm5 f28)
   (u29:Fu K "_law_rounds" ai4 f29)
   (u30:Fu K "_law_power" am0 f30)
   (u31:Fu K "_law_counts" ai5 f31)
   (u32:Fu K "_law_rights" ai6 f32)
   (u33:Fu K "_law_woven" am1 f33)
   (u34:Fu K "_law_how_many" ac6 f34)
   (u35:Fu K "_law_every" am2 f35)
   (u36:Fu K "_law_roots" am3 f36)
   (u37:Fu K "_law_word" at2 f37)
   (u38:Fu K "_law_nth" ay0 f38)
   (u39:Fu K "_law_number" ai7 f39)
   (u40:Fu K "_law_root_right" Y8 f40)
   (u41:Fu K "_law_right" am4 f41)
   (u42:Fu K "law" ba9 f42)
   (m0:PySem.W.nsIn K mainGlobals "MOST_THINGS"=some (some (.int 40 tk0)))
   (m1:PySem.W.nsIn K mainGlobals "MOST_TOLD"=some (some (.int 2000 tk1)))
   (zz:Fre K ["len","isinstance","int","bool","list","range","sum","min","max","enumerate","zip","sorted","tuple","str","repr","all","any","set","dict","ValueError"])
   (uT:PySem.W.nsIn K mainGlobals "TurnError"=some (some (.ref q_TurnError)))
   (uTb:PySem.W.mroIn K q_TurnError (.type "BaseException")=some true)
   (uTc:PySem.W.isClsIn K q_TurnError=true)
   (uTt:PySem.W.typeIn K (.ref q_TurnError)=some (.type "type"))
   (uG:PySem.W.specialIn K (.builtin "object.__class__") "__get__"=some (some (.builtin "getset_descriptor.__get__")))
   (uK:PySem.W.takesIn K (.builtin "object.__class__")=some true)
   (uC:bm3 K q_TurnError [(("NoTurn":Str),q_NoTurn),(("NoFit":Str),q_NoFit),(("NoRounds":Str),q_NoRounds),(("NoNumber":Str),q_NoNumber),(("NoRoot":Str),q_NoRoot),(("TooMany":Str),q_TooMany),(("NoKind":Str),q_NoKind),(("NoText":Str),q_NoText),(("NoName":Str),q_NoName),(("NoRow":Str),q_NoRow)])
   (uP:bm4 K [(("NoTurn":Str),q_NoTurn),(("NoFit":Str),q_NoFit),(("NoRounds":Str),q_NoRounds),(("NoNumber":Str),q_NoNumber),(("NoRoot":Str),q_NoRoot),(("TooMany":Str),q_TooMany),(("NoKind":Str),q_NoKind),(("NoText":Str),q_NoText),(("NoName":Str),q_NoName),(("NoRow":Str),q_NoRow)] 0 [(("NoTurn":Str),q_NoTurn),(("NoFit":Str),q_NoFit),(("NoRounds":Str),q_NoRounds),(("NoNumber":Str),q_NoNumber),(("NoRoot":Str),q_NoRoot),(("TooMany":Str),q_TooMany),(("NoKind":Str),q_NoKind),(("NoText":Str),q_NoText),(("NoName":Str),q_NoName),(("NoRow":Str),q_NoRow)])
   :∃fd:FuncData,(∀(s:Shared) (v:Value),BindsTo s fd ⟨[v],[]⟩ [("script",v)])/\∀base:Heap,K.In base->base.Ns mainGlobals mg->n6 l.prog w K mg base E9 49 fa fd ["script"] (bu0 K):=by
 obtain ⟨d0,a0,F0⟩:=u0;obtain ⟨d1,a1,F1⟩:=u1;obtain ⟨d2,a2,F2⟩:=u2;obtain ⟨d3,a3,F3⟩:=u3;obtain ⟨d4,a4,F4⟩:=u4;obtain ⟨d5,a5,F5⟩:=u5;obtain ⟨d6,a6,F6⟩:=u6;obtain ⟨d7,a7,F7⟩:=u7;obtain ⟨d8,a8,F8⟩:=u8;obtain ⟨d9,a9,F9⟩:=u9;obtain ⟨d10,a10,F10⟩:=u10;obtain ⟨d11,a11,F11⟩:=u11;obtain ⟨d12,a12,F12⟩:=u12;obtain ⟨d13,a13,F13⟩:=u13;obtain ⟨d14,a14,F14⟩:=u14;obtain ⟨d15,a15,F15⟩:=u15;obtain ⟨d16,a16,F16⟩:=u16;obtain ⟨d17,a17,F17⟩:=u17;obtain ⟨d18,a18,F18⟩:=u18;obtain ⟨d19,a19,F19⟩:=u19;obtain ⟨d20,a20,F20⟩:=u20;obtain ⟨d21,a21,F21⟩:=u21;obtain ⟨d22,a22,F22⟩:=u22;obtain ⟨d23,a23,F23⟩:=u23;obtain ⟨d24,a24,F24⟩:=u24;obtain ⟨d25,a25,F25⟩:=u25;obtain ⟨d26,a26,F26⟩:=u26;obtain ⟨d27,a27,F27⟩:=u27;obtain ⟨d28,a28,F28⟩:=u28;obtain ⟨d29,a29,F29⟩:=u29;obtain ⟨d30,a30,F30⟩:=u30;obtain ⟨d31,a31,F31⟩:=u31;obtain ⟨d32,a32,F32⟩:=u32;obtain ⟨d33,a33,F33⟩:=u33;obtain ⟨d34,a34,F34⟩:=u34;obtain ⟨d35,a35,F35⟩:=u35;obtain ⟨d36,a36,F36⟩:=u36;obtain ⟨d37,a37,F37⟩:=u37;obtain ⟨d38,a38,F38⟩:=u38;obtain ⟨d39,a39,F39⟩:=u39;obtain ⟨d40,a40,F40⟩:=u40;obtain ⟨d41,a41,F41⟩:=u41;obtain ⟨d42,a42,F42⟩:=u42;have e:=hfa.symm.trans (PySem.W.mg_of X G a42);cases e;obtain ⟨z0,z1,z2,z3,z4,z5,z6,z7,z8,z9,z10,z11,z12,z13,z14,z15,z16,z17,z18,z19,_⟩:=zz;have zn {y:Str} (z:PySem.W.nsIn K mainGlobals y=some none):=PySem.W.mg_none_of X G z;have B:Bl mg:=⟨zn z0,zn z1,zn z2,zn z3,zn z4,zn z5,zn z6,zn z7,zn z8,zn z9,zn z10,zn z11,zn z12,zn z13,zn z14,zn z15,zn z16,zn z17,zn z18,zn z19⟩;have mt:∃t,mg "MOST_THINGS"=some (.int 40 t):=⟨_,PySem.W.mg_of X G m0⟩;have g_MOST_TOLD:∃t,mg "MOST_TOLD"=some (.int 2000 t):=⟨_,PySem.W.mg_of X G m1⟩;have ER:ax6 K mg q_TurnError [(("NoTurn":Str),q_NoTurn),(("NoFit":Str),q_NoFit),(("NoRounds":Str),q_NoRounds),(("NoNumber":Str),q_NoNumber),(("NoRoot":Str),q_NoRoot),(("TooMany":Str),q_TooMany),(("NoKind":Str),q_NoKind),(("NoText":Str),q_NoText),(("NoName":Str),q_NoName),(("NoRow":Str),q_NoRow)]:=cs0 X G uT uTb uTc uTt uG uK uC uP (show (["NoTurn","NoFit","NoRounds","NoNumber","NoRoot","TooMany","NoKind","NoText","NoName","NoRow"]:List Str).Nodup by decide+kernel)
 have ES:∀p∈[(("NoTurn":Str),q_NoTurn),(("NoFit":Str),q_NoFit),(("NoRounds":Str),q_NoRounds),(("NoNumber":Str),q_NoNumber),(("NoRoot":Str),q_NoRoot),(("TooMany":Str),q_TooMany),(("NoKind":Str),q_NoKind),(("NoText":Str),q_NoText),(("NoName":Str),q_NoName),(("NoRow":Str),q_NoRow)],dw9 K p.2:=fun p hp=>⟨(uC.get p hp).s,(uC.get p hp).b⟩
 have e_NoTurn:Err K mg "NoTurn" q_NoTurn:=ER.err ("NoTurn",q_NoTurn) (by simp);have e_NoFit:Err K mg "NoFit" q_NoFit:=ER.err ("NoFit",q_NoFit) (by simp);have e_NoRounds:Err K mg "NoRounds" q_NoRounds:=ER.err ("NoRounds",q_NoRounds) (by simp);have e_NoNumber:Err K mg "NoNumber" q_NoNumber:=ER.err ("NoNumber",q_NoNumber) (by simp);have e_NoRoot:Err K mg "NoRoot" q_NoRoot:=ER.err ("NoRoot",q_NoRoot) (by simp);have e_TooMany:Err K mg "TooMany" q_TooMany:=ER.err ("TooMany",q_TooMany) (by simp);have e_NoKind:Err K mg "NoKind" q_NoKind:=ER.err ("NoKind",q_NoKind) (by simp);have e_NoText:Err K mg "NoText" q_NoText:=ER.err ("NoText",q_NoText) (by simp);have e_NoName:Err K mg "NoName" q_NoName:=ER.err ("NoName",q_NoName) (by simp);have e_NoRow:Err K mg "NoRow" q_NoRow:=ER.err ("NoRow",q_NoRow) (by simp)
 have b0:=F0.binds (ps:=["thing"]) fun _ _ _ _ _ _ us hl=>match us,hl with|[_],_=>rfl
 have b1:=F1.binds (ps:=["number"]) fun _ _ _ _ _ _ us hl=>match us,hl with|[_],_=>rfl
 have b2:=F2.binds (ps:=["many"]) fun _ _ _ _ _ _ us hl=>match us,hl with|[_],_=>rfl
 have b3:=F3.binds (ps:=["a","b"]) fun _ _ _ _ _ _ us hl=>match us,hl with|[_,_],_=>rfl
 have b4:=F4.binds (ps:=["p","first"]) fun _ _ _ _ _ _ us hl=>match us,hl with|[_,_],_=>rfl
 have b5:=F5.binds (ps:=["p"]) fun _ _ _ _ _ _ us hl=>match us,hl with|[_],_=>rfl
 have b6:=F6.binds (ps:=["target","ring","steps"]) fun _ _ _ _ _ _ us hl=>match us,hl with|[_,_,_],_=>rfl
 have b7:=F7.binds (ps:=["rings"]) fun _ _ _ _ _ _ us hl=>match us,hl with|[_],_=>rfl
 have b8:=F8.binds (ps:=["rings"]) fun _ _ _ _ _ _ us hl=>match us,hl with|[_],_=>rfl
 have b9:=F9.binds (ps:=["p","choices"]) fun _ _ _ _ _ _ us hl=>match us,hl with|[_,_],_=>rfl
 have b10:=F10.binds (ps:=["thing"]) fun _ _ _ _ _ _ us hl=>match us,hl with|[_],_=>rfl
 have b11:=F11.binds (ps:=["thing"]) fun _ _ _ _ _ _ us hl=>match us,hl with|[_],_=>rfl
 have b12:=F12.binds (ps:=["p","q"]) fun _ _ _ _ _ _ us hl=>match us,hl with|[_,_],_=>rfl
 have b13:=F13.binds (ps:=["rings","m"]) fun _ _ _ _ _ _ us hl=>match us,hl with|[_,_],_=>rfl
 have b14:=F14.binds (ps:=["length","m","most"]) fun _ _ _ _ _ _ us hl=>match us,hl with|[_,_,_],_=>rfl
 have b15:=F15.binds (ps:=["left","part","length"]) fun _ _ _ _ _ _ us hl=>match us,hl with|[_,_,_],_=>rfl
 have b16:=F16.binds (ps:=["length","many","m"]) fun _ _ _ _ _ _ us hl=>match us,hl with|[_,_,_],_=>rfl
 have b17:=F17.binds (ps:=["p","m"]) fun _ _ _ _ _ _ us hl=>match us,hl with|[_,_],_=>rfl
 have b18:=F18.binds (ps:=["rings","part"]) fun _ _ _ _ _ _ us hl=>match us,hl with|[_,_],_=>rfl
 have b19:=F19.binds (ps:=["rings","right","m"]) fun _ _ _ _ _ _ us hl=>match us,hl with|[_,_,_],_=>rfl
 have b20:=F20.binds (ps:=["p","m"]) fun _ _ _ _ _ _ us hl=>match us,hl with|[_,_],_=>rfl
 have b21:=F21.binds (ps:=["p","m","k"]) fun _ _ _ _ _ _ us hl=>match us,hl with|[_,_,_],_=>rfl
 have b22:=F22.binds (ps:=["p","m","r"]) fun _ _ _ _ _ _ us hl=>match us,hl with|[_,_,_],_=>rfl
 have b23:=F23.binds (ps:=["script","k"]) fun _ _ _ _ _ _ us hl=>match us,hl with|[_,_],_=>rfl
 have b24:=F24.binds (ps:=["cell","k"]) fun _ _ _ _ _ _ us hl=>match us,hl with|[_,_],_=>rfl
 have b25:=F25.binds (ps:=["cell","many"]) fun _ _ _ _ _ _ us hl=>match us,hl with|[_,_],_=>rfl
 have b26:=F26.binds (ps:=["deck"]) fun _ _ _ _ _ _ us hl=>match us,hl with|[_],_=>rfl
 have b27:=F27.binds (ps:=["deck","many"]) fun _ _ _ _ _ _ us hl=>match us,hl with|[_,_],_=>rfl
 have b28:=F28.binds (ps:=["deck"]) fun _ _ _ _ _ _ us hl=>match us,hl with|[_],_=>rfl
 have b29:=F29.binds (ps:=["p"]) fun _ _ _ _ _ _ us hl=>match us,hl with|[_],_=>rfl
 have b30:=F30.binds (ps:=["p","m"]) fun _ _ _ _ _ _ us hl=>match us,hl with|[_,_],_=>rfl
 have b31:=F31.binds (ps:=["p"]) fun _ _ _ _ _ _ us hl=>match us,hl with|[_],_=>rfl
 have b32:=F32.binds (ps:=["l","m","most"]) fun _ _ _ _ _ _ us hl=>match us,hl with|[_,_,_],_=>rfl
 have b33:=F33.binds (ps:=["l","many","rights"]) fun _ _ _ _ _ _ us hl=>match us,hl with|[_,_,_],_=>rfl
 have b34:=F34.binds (ps:=["p","m"]) fun _ _ _ _ _ _ us hl=>match us,hl with|[_,_],_=>rfl
 have b35:=F35.binds (ps:=["many"]) fun _ _ _ _ _ _ us hl=>match us,hl with|[_],_=>rfl
 have b36:=F36.binds (ps:=["p","m"]) fun _ _ _ _ _ _ us hl=>match us,hl with|[_,_],_=>rfl
 have b37:=F37.binds (ps:=["caught"]) fun _ _ _ _ _ _ us hl=>match us,hl with|[_],_=>rfl
 have b38:=F38.binds (ps:=["p","m","k"]) fun _ _ _ _ _ _ us hl=>match us,hl with|[_,_,_],_=>rfl
 have b39:=F39.binds (ps:=["p","m","r"]) fun _ _ _ _ _ _ us hl=>match us,hl with|[_,_,_],_=>rfl
 have b40:=F40.binds (ps:=["p","m","due","k"]) fun _ _ _ _ _ _ us hl=>match us,hl with|[_,_,_,_],_=>rfl
 have b41:=F41.binds (ps:=["deck","p","m","far"]) fun _ _ _ _ _ _ us hl=>match us,hl with|[_,_,_,_],_=>rfl
 obtain ⟨oc,od,kV,dc,pm,an,cd,ct,sl,rfl,lk,hcd⟩:=id F42.ex;refine ⟨PySem.W.fnOf "law" "law" (ag4 ba9) (Z1 ba9) (j7 ba9) .none kV dc pm an cd ct,fun s v=> .of_eq rfl,fun base _ _=> ?_⟩;have c_is_whole:n0 l.prog w K mg base "is_whole" 1 ["thing"] (ag6 K):=i9 X G a0 F0 b0 (cy5 F0 B);have c_must_be_from_one:n0 l.prog w K mg base "must_be_from_one" 2 ["number"] bi9:=i9 X G a1 F1 b1 (dn3 F1 c_is_whole);have cx_must_be_few:ac0 l.prog w K mg base "must_be_few" 1 ["many"] (fun vs H Q E=>ay9 vs H Q E\/(cb2 q_TooMany) vs H Q E):=ba8 X G a2 F2 b2 (n6.or (n6.lift (ap4 F2 g_MOST_TOLD)) (bk6 F2 g_MOST_TOLD e_TooMany));have c_must_be_few:n0 l.prog w K mg base "must_be_few" 1 ["many"] ay9:=i9 X G a2 F2 b2 (ap4 F2 g_MOST_TOLD);have c_greatest_part:n0 l.prog w K mg base "greatest_part" 1 ["a","b"] ck6:=i9 X G a3 F3 b3 (dn2 F3);have c_walk_ring:n0 l.prog w K mg base "walk_ring" 1 ["p","first"] by7:=i9 X G a4 F4 b4 (df8 F4);have c_walk_rings:n0 l.prog w K mg base "walk_rings" 2 ["p"] Z5:=i9 X G a5 F5 b5 (cy6 F5 B c_walk_ring);have c_send_along:n0 l.prog w K mg base "send_along" 1 ["target","ring","steps"] (ck2 bi7 bb3):=i9 X G a6 F6 b6 (dr2 (df9 F6 B) (bs7 F6 B));have c_sort_by_length:n0 l.prog w K mg base "sort_by_length" 1 ["rings"] bb1:=i9 X G a7 F7 b7 (cz0 F7 B);have c_picks_of:n0 l.prog w K mg base "picks_of" 1 ["rings"] bn1:=i9 X G a8 F8 b8 (cd4 F8 B);have c_lay_every_way:n0 l.prog w K mg base "lay_every_way" 1 ["p","choices"] cl0:=i9 X G a9 F9 b9 (bf5 F9 B);have c_is_turn:n0 l.prog w K mg base "is_turn" 2 ["thing"] be2:=i9 X G a10 F10 b10 (cs1 F10 B mt c_is_whole);have c_must_be_turn:n0 l.prog w K mg base "must_be_turn" 3 ["thing"] ay1:=i9 X G a11 F11 b11 (df7 F11 c_is_turn);have c_must_fit:n0 l.prog w K mg base "must_fit" 1 ["p","q"] (bt7 K):=i9 X G a12 F12 b12 (dn1 F12 B);have c_join_rings:n0 l.prog w K mg base "join_rings" 1 ["rings","m"] bi8:=i9 X G a13 F13 b13 (dg0 F13 B);have c_right_numbers:n0 l.prog w K mg base "right_numbers" 2 ["length","m","most"] at4:=i9 X G a14 F14 b14 (be6 F14 B c_greatest_part);have c_ways_to_follow:n0 l.prog w K mg base "ways_to_follow" 1 ["left","part","length"] be7:=i9 X G a15 F15 b15 (bb9 F15 B);have c_count_joins:n0 l.prog w K mg base "count_joins" 3 ["length","many","m"] bm7:=i9 X G a16 F16 b16 (bm8 F16 B c_right_numbers c_ways_to_follow);have c_how_many_roots:n0 l.prog w K mg base "how_many_roots" 4 ["p","m"] aj1:=i9 X G a17 F17 b17 (bc0 F17 B c_must_be_turn c_must_be_from_one c_sort_by_length c_walk_rings c_count_joins);have c_chains_of:n0 l.prog w K mg base "chains_of" 2 ["rings","part"] au2:=i9 X G a18 F18 b18 (ca4 F18 B c_picks_of);have c_ways_to_join:n0 l.prog w K mg base "ways_to_join" 43 ["rings","right","m"] (ay6 40):=i9 X G a19 F19 b19 (i6 F19 B c_chains_of c_join_rings (i9 X G a19 F19 b19 (i6 F19 B c_chains_of c_join_rings (i9 X G a19 F19 b19 (i6 F19 B c_chains_of c_join_rings (i9 X G a19 F19 b19 (i6 F19 B c_chains_of c_join_rings (i9 X G a19 F19 b19 (i6 F19 B c_chains_of c_join_rings (i9 X G a19 F19 b19 (i6 F19 B c_chains_of c_join_rings (i9 X G a19 F19 b19 (i6 F19 B c_chains_of c_join_rings (i9 X G a19 F19 b19 (i6 F19 B c_chains_of c_join_rings (i9 X G a19 F19 b19 (i6 F19 B c_chains_of c_join_rings (i9 X G a19 F19 b19 (i6 F19 B c_chains_of c_join_rings (i9 X G a19 F19 b19 (i6 F19 B c_chains_of c_join_rings (i9 X G a19 F19 b19 (i6 F19 B c_chains_of c_join_rings (i9 X G a19 F19 b19 (i6 F19 B c_chains_of c_join_rings (i9 X G a19 F19 b19 (i6 F19 B c_chains_of c_join_rings (i9 X G a19 F19 b19 (i6 F19 B c_chains_of c_join_rings (i9 X G a19 F19 b19 (i6 F19 B c_chains_of c_join_rings (i9 X G a19 F19 b19 (i6 F19 B c_chains_of c_join_rings (i9 X G a19 F19 b19 (i6 F19 B c_chains_of c_join_rings (i9 X G a19 F19 b19 (i6 F19 B c_chains_of c_join_rings (i9 X G a19 F19 b19 (i6 F19 B c_chains_of c_join_rings (i9 X G a19 F19 b19 (i6 F19 B c_chains_of c_join_rings (i9 X G a19 F19 b19 (i6 F19 B c_chains_of c_join_rings (i9 X G a19 F19 b19 (i6 F19 B c_chains_of c_join_rings (i9 X G a19 F19 b19 (i6 F19 B c_chains_of c_join_rings (i9 X G a19 F19 b19 (i6 F19 B c_chains_of c_join_rings (i9 X G a19 F19 b19 (i6 F19 B c_chains_of c_join_rings (i9 X G a19 F19 b19 (i6 F19 B c_chains_of c_join_rings (i9 X G a19 F19 b19 (i6 F19 B c_chains_of c_join_rings (i9 X G a19 F19 b19 (i6 F19 B c_chains_of c_join_rings (i9 X G a19 F19 b19 (i6 F19 B c_chains_of c_join_rings (i9 X G a19 F19 b19 (i6 F19 B c_chains_of c_join_rings (i9 X G a19 F19 b19 (i6 F19 B c_chains_of c_join_rings (i9 X G a19 F19 b19 (i6 F19 B c_chains_of c_join_rings (i9 X G a19 F19 b19 (i6 F19 B c_chains_of c_join_rings (i9 X G a19 F19 b19 (i6 F19 B c_chains_of c_join_rings (i9 X G a19 F19 b19 (i6 F19 B c_chains_of c_join_rings (i9 X G a19 F19 b19 (i6 F19 B c_chains_of c_join_rings (i9 X G a19 F19 b19 (i6 F19 B c_chains_of c_join_rings (i9 X G a19 F19 b19 (i6 F19 B c_chains_of c_join_rings (i9 X G a19 F19 b19 (i6 F19 B c_chains_of c_join_rings (i9 X G a19 F19 b19 (bj6 F19 B c_chains_of c_join_rings c_send_along)) c_send_along)) c_send_along)) c_send_along)) c_send_along)) c_send_along)) c_send_along)) c_send_along)) c_send_along)) c_send_along)) c_send_along)) c_send_along)) c_send_along)) c_send_along)) c_send_along)) c_send_along)) c_send_along)) c_send_along)) c_send_along)) c_send_along)) c_send_along)) c_send_along)) c_send_along)) c_send_along)) c_send_along)) c_send_along)) c_send_along)) c_send_along)) c_send_along)) c_send_along)) c_send_along)) c_send_along)) c_send_along)) c_send_along)) c_send_along)) c_send_along)) c_send_along)) c_send_along)) c_send_along)) c_send_along)) c_send_along)
 have cx_all_roots:ac0 l.prog w K mg base "all_roots" 44 ["p","m"] (fun vs H Q E=>ae7 vs H Q E\/(bk7 q_TooMany) vs H Q E):=ba8 X G a20 F20 b20 (n6.or (n6.lift (az0 F20 B c_how_many_roots c_must_be_few c_sort_by_length c_walk_rings c_ways_to_join c_right_numbers c_lay_every_way)) (bs8 F20 c_how_many_roots cx_must_be_few));have c_all_roots:n0 l.prog w K mg base "all_roots" 44 ["p","m"] ae7:=i9 X G a20 F20 b20 (az0 F20 B c_how_many_roots c_must_be_few c_sort_by_length c_walk_rings c_ways_to_join c_right_numbers c_lay_every_way);have cx_nth_root:ac0 l.prog w K mg base "nth_root" 45 ["p","m","k"] (fun vs H Q E=>bk4 vs H Q E\/(cb3 q_NoNumber q_TooMany) vs H Q E):=ba8 X G a21 F21 b21 (n6.or (n6.lift (bd0 F21 B c_all_roots c_is_whole)) (cb4 F21 B cx_all_roots c_is_whole e_NoNumber));have c_nth_root:n0 l.prog w K mg base "nth_root" 45 ["p","m","k"] bk4:=i9 X G a21 F21 b21 (bd0 F21 B c_all_roots c_is_whole);have cx_number_of_root:ac0 l.prog w K mg base "number_of_root" 45 ["p","m","r"] (fun vs H Q E=>bk5 vs H Q E\/(cb5 q_TooMany q_NoRoot) vs H Q E):=ba8 X G a22 F22 b22 (n6.or (n6.lift (af7 F22 c_must_be_turn c_must_be_from_one c_must_fit c_all_roots)) (az4 F22 c_must_be_turn c_must_be_from_one c_must_fit cx_all_roots e_NoRoot));have c_number_of_root:n0 l.prog w K mg base "number_of_root" 45 ["p","m","r"] bk5:=i9 X G a22 F22 b22 (af7 F22 c_must_be_turn c_must_be_from_one c_must_fit c_all_roots);have c_law_cell_at:n0 l.prog w K mg base "_law_cell_at" 1 ["script","k"] (bz2 K):=i9 X G a23 F23 b23 (dg1 F23 B);have c_law_stir:n0 l.prog w K mg base "_law_stir" 1 ["cell","k"] bz3:=i9 X G a24 F24 b24 (dg2 F24);have c_law_deck:n0 l.prog w K mg base "_law_deck" 2 ["cell","many"] bz5:=i9 X G a25 F25 b25 (dg3 F25 B c_law_stir);have c_law_next:n0 l.prog w K mg base "_law_next" 1 ["deck"] ap0:=i9 X G a26 F26 b26 (dg4 F26);have c_law_turn:n0 l.prog w K mg base "_law_turn" 2 ["deck","many"] bb2:=i9 X G a27 F27 b27 (cz1 F27 B c_law_next);have c_law_m:n0 l.prog w K mg base "_law_m" 2 ["deck"] spM:=i9 X G a28 F28 b28 (dx0 F28 B c_law_next);have c_law_rounds:n0 l.prog w K mg base "_law_rounds" 1 ["p"] Z5:=i9 X G a29 F29 b29 (bs4 F29 B);have c_law_power:n0 l.prog w K mg base "_law_power" 2 ["p","m"] bb0:=i9 X G a30 F30 b30 (bz6 F30 B c_law_rounds);have c_law_counts:n0 l.prog w K mg base "_law_counts" 2 ["p"] be4:=i9 X G a31 F31 b31 (bs5 F31 B c_law_rounds);have c_law_rights:n0 l.prog w K mg base "_law_rights" 1 ["l","m","most"] ay4:=i9 X G a32 F32 b32 (bs6 F32 B);have c_law_woven:n0 l.prog w K mg base "_law_woven" 1 ["l","many","rights"] bm9:=i9 X G a33 F33 b33 (ca0 F33 B);have c_law_how_many:n0 l.prog w K mg base "_law_how_many" 3 ["p","m"] aj1:=i9 X G a34 F34 b34 (bj4 F34 c_law_counts c_law_woven c_law_rights);have c_law_every:n0 l.prog w K mg base "_law_every" 1 ["many"] bn8:=i9 X G a35 F35 b35 (cb9 F35 B);have c_law_roots:n0 l.prog w K mg base "_law_roots" 3 ["p","m"] bg2:=i9 X G a36 F36 b36 (cc1 F36 B c_law_every c_law_power);have c_law_word:n0 l.prog w K mg base "_law_word" 1 ["caught"] (bj3 q_NoTurn q_NoFit q_NoRounds q_NoNumber q_NoRoot q_TooMany q_NoKind q_NoText q_NoName q_NoRow):=i9 X G a37 F37 b37 (cd3 F37 B ER)
 have c_law_nth:n0 l.prog w K mg base "_law_nth" 46 ["p","m","k"] bb7:=i9 X G a38 F38 b38 (cl6 F38 cx_nth_root c_law_word ER);have c_law_number:n0 l.prog w K mg base "_law_number" 46 ["p","m","r"] bb8:=i9 X G a39 F39 b39 (bs9 F39 cx_number_of_root c_law_word ER);have c_law_root_right:n0 l.prog w K mg base "_law_root_right" 47 ["p","m","due","k"] am7:=i9 X G a40 F40 b40 (bc1 F40 B c_law_nth c_law_number);have c_law_right:n0 l.prog w K mg base "_law_right" 48 ["deck","p","m","far"] az6:=i9 X G a41 F41 b41 (cc4 F41 B c_law_how_many c_law_number c_law_nth c_all_roots c_law_roots c_law_root_right c_law_next c_law_turn);exact do9 F42 B c_law_cell_at c_law_deck c_law_next c_law_m c_law_turn c_law_power c_law_right
theorem dy8 {l:PySem.W.OpenLaw}{q:Program}{loose:List Str}{XP:(Str->Option Value)->Heap->Prop}{YP:World->Heap->Prop}{d:DefRec}{K:Params->PySem.W.Frag}(hn:l.most=some 63)(hdf:d.params.defaults=[])
   (hY:∀(w:World) (h:Heap),YP w h->(K w.params).In h)
   (F:∀(w:World) (mg:Str->Option Value) (fa:Addr) (h:Heap),(K w.params).In h->h.Ns mainGlobals mg->mg d.name=some (.ref fa)->
     ∃fd:FuncData,(∀(s:Shared) (u:Value),BindsTo s fd ⟨[u],[]⟩ [("script",u)])/\∀base:Heap,(K w.params).In base->base.Ns mainGlobals mg->n6 l.prog w (K w.params) mg base E9 49 fa fd ["script"] (bu0 (K w.params))):
   PySem.W.WalkO q loose XP YP l.row.toRowW d [] (fun f vs=>PySem.call f vs):=
 L2.dx4 (n:=63) (k:=49) (x:="script") (CX:=fun _=>E9) (sp:=fun w=>bu0 (K w.params)) hn (by decide) hdf ⟨rfl,by decide,by decide,rfl⟩ hY F (fun _ _ a ns hl _ hS=>⟨a,ns,rfl,hS,hl,fun _=>rfl⟩) fun _ _ _ _ _ z=>z
end My
def PySem.W.Fast.tw11117947726945622215 : Unit := ()
def PySem.W.Fast.tw11299179643947497918 : Unit := ()
def PySem.W.Fast.tw12790359749331458217 : Unit := ()
def PySem.W.Fast.tw6350753694109273635 : Unit := ()
def PySem.W.Fast.tw9112684399230728461 : Unit := ()
def PySem.W.Fast.tw13809185834410768303 : Unit := ()
def PySem.W.Fast.tw11640351290965304707 : Unit := ()
def PySem.W.Fast.tw11434172459548895293 : Unit := ()
def PySem.W.Fast.tw3808975278652992237 : Unit := ()
def PySem.W.Fast.tw1345998743454619554 : Unit := ()
def PySem.W.Fast.tw11263737884723997270 : Unit := ()
def PySem.W.Fast.tw15620404150024940662 : Unit := ()
def PySem.W.Fast.tw11974680386935738421 : Unit := ()
def PySem.W.Fast.tw2526376395935011949 : Unit := ()
def PySem.W.Fast.tw5015566785460914123 : Unit := ()
def PySem.W.Fast.tw4902289490693616220 : Unit := ()
abbrev PySem.W.Fast.tw5160776928644597964:PySem.Program:=PySem.Challenge.pw_turnroots_k20_roots_by_numbers
theorem PySem.W.Fast.te5160776928644597964:PySem.Challenge.pw_turnroots_k20_roots_by_numbers=PySem.W.Fast.tw5160776928644597964:=rfl
abbrev PySem.W.Fast.tw90343872475197607:Type:=PySem.Params
theorem PySem.W.Fast.te90343872475197607:PySem.Params=PySem.W.Fast.tw90343872475197607:=rfl
open PySem PySem.W PyProof.Rows L2
set_option maxRecDepth 100000 in
set_option maxHeartbeats 0 in
theorem PySem.Challenge.cw_turnroots_k20_roots_by_numbers_holds : PySem.Challenge.rw_turnroots_k20_roots_by_numbers.Holds := by
  w_on; o_law; k_head; (case hw => w_witness2)
  k_fill
  refine My.dy8 (l := PySem.Challenge.rw_turnroots_k20_roots_by_numbers) rfl rfl (fun w h Y => PySem.W.kIn_of Y) ?F
  case F =>
    intro w mg fa h KX G hmg
    refine' My.dy7 KX G hmg ?_ ?_ ?_ ?_ ?_ ?_ ?_ ?_ ?_ ?_ ?_ ?_ ?_ ?_ ?_ ?_ ?_ ?_ ?_ ?_ ?_ ?_ ?_ ?_ ?_ ?_ ?_ ?_ ?_ ?_ ?_ ?_ ?_ ?_ ?_ ?_ ?_ ?_ ?_ ?_ ?_ ?_ ?_ ?_ ?_ ?_ ?_ ?_ ?_ ?_ ?_ ?_ ?_ ?_
    all_goals first
      | k_is
      | (refine' dr8 ?a ?l ?c ?k; (case a => k_is); (case l => k_is); (case c => k_is); (case k => k_is))
      | ((repeat (refine' And.intro (ClF.mk ?n ?e ?g ?h ?c ?b ?o ?i ?t ?u ?v ?s) ?_; (case n => k_is); (case e => k_exc); (case g => k_is); (case h => k_is); (case c => k_is); (case b => k_is); (case o => k_is); (case i => k_is); (case t => k_is); (case u => k_is); (case v => k_is); (case s => k_is))); exact trivial)
      | ((repeat (refine' And.intro ?n ?_; (case n => k_is))); exact trivial)
      | ((repeat (refine' And.intro ?zp ?_; (case zp => ((repeat (refine' And.intro ?n ?_; (case n => k_is))); exact trivial)))); exact trivial)
      | skip
#print axioms PySem.Challenge.cw_turnroots_k20_roots_by_numbers_holds
