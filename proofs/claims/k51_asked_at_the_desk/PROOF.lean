import PyProof.Rows.All
import Wide.All
import OpenK.AllK
import Wide.FinOn
import Lean
import PyProof.EqAt
import PyProof.EqKinds
import PyProof.TupleCall
import PyProof.NeKinds
import PyProof.EnumMake
import PyProof.Rows.SeqMore2
import PyProof.ZipIter
import PyProof.Rows.SortRev
import PyProof.Rows.SortWalk
import PyProof.Rows.CallKwBuiltin
import PyProof.DictIter
import PyProof.DictWalks
import PyProof.MeetsDict
import PyProof.Conv_int_bool
import PyProof.EqAt
import PyProof.CollectWalk
import PyProof.Rows.SortShell
import PyProof.Rows.Range3
import PyProof.CallFns
import PyProof.StrBlockH
import PySem.Challenge.RW_turnroots_k51_asked_at_the_desk
open List renaming length_map→eb8, getElem?_eq_getElem→eb9, getElem?_eq_some_iff→ec0, getElem?_map→ec1, length_append→ec2, map_append→ec3, mem_of_getElem?→ec4, mem_cons_self→ec5, size_toArray→ec7, mem_cons→ec8, mem_cons_of_mem→ec9, getD_eq_getElem?_getD→ed0, replicate→ed1, length_take→ed3, mem_append_right→ed4, getElem?_eq_none→ed5, getElem?_append_right→ed6, mem_append→ed8, take_length→ee1, mem_map→ee3, getElem_mem→ee5, nodup_iff_pairwise_ne→ee6, append_assoc→ee7, flatten_cons→ee8, mem_flatten→ef1, getElem?_append_left→ef3, append_nil→ef4, length_cons→ef6, pairwise_iff_getElem→ef8, mem_append_left→eg0, getElem?_take_of_lt→eg1, map_cons→eg2, flatten_append→eg3, not_mem_nil→eg4, nodup_append→eg5, nodup_cons→eg7, mem_range→eg8, length_range→eg9, mem_singleton→eh0, mem_iff_getElem?→eh1, range'→eh2, take_of_length_le→eh3, range→eh4, lookup_cons→eh5, map_map→eh6, length_eq_zero_iff→eh7, length_drop→ei0, length_replicate→ei3, ext_getElem?→ei4, all_eq_true→ei6, flatten_singleton→ei8, filterMap_cons→ei9, replicate_succ→ej2, map_congr_left→ej3, getElem?_range→ej4, find?_cons_of_neg→ej5, flatten_replicate_singleton→ej6, mem_filter→ej9, nodup_nil→ek7, getElem?_drop→ek8, take_append_drop→ek9, length_set→el1, mem_of_mem_take→el5, pairwise_cons→em0, filter_append→em1, getElem?_set_self→em2, find?_cons→em3, forIn_cons→em4, pairwise_lt_range→em5, find?_cons_of_pos→em7, countP_eq_length_filter→em8, lookup→em9, length→en0, pairwise_map→en1, take_zero→en4, getElem?_set_ne→en6, range'_append_1→en8, countP_cons→eo1, extract_eq_take_drop→eo4, sum_append→eo6, sum_singleton→eo8, map_nil→eo9, getElem?_cons_succ→ep1, filter_cons_of_pos→ep3, map_set→ep4, length_singleton→ep8, eraseIdxIfInBounds_toArray→ep9, pairwise_append→eq3, getElem?_of_mem→eq5, length_reverse→eq9, sublist_flatten_of_mem→er0, mem_filterMap→er3, append_of_mem→er4, map_replicate→er5, take_add_one→es3, mem_range'_1→es6, drop_eq_getElem_cons→es8, mem_of_find?_eq_some→es9, getElem?_replicate→et3, getElem?_cons_zero→et5, filter_cons_of_neg→et7, of_mem_zip→et9, length_nil→eu0, drop_left'→eu3, countP_map→eu4, forIn_nil→eu5, take_left→eu6, drop_zero→eu7, any_cons→eu8, take_add→eu9
open Nat renaming le_refl→ec6, ne_of_lt→ed2, le_trans→ee0, zero_le→ee2, gcd→ee4, lt_of_lt_of_le→ee9, mod_eq_of_lt→ef9, lt_irrefl→eh8, le_of_lt→eh9, mod_lt→ei2, mul_comm→ej0, le_of_dvd→ej1, succ_mul→ej7, eq_zero_or_pos→ej8, lt_succ_of_lt→ek0, gcd_dvd_right→ek1, le_succ→ek2, add_comm→ek3, mul_div_cancel_left→ek4, gcd_pos_of_pos_left→ek5, add_mod_right→el3, le_add_right→el7, lt_of_le_of_lt→el9, dvd_of_mod_eq_zero→em6, dvd_of_mul_dvd_mul_left→en2, coprime_div_gcd_div_gcd→en3, zero_add→en5, mul_le_mul_right→en7, lt_succ_self→en9, gcd_dvd_left→eo0, add_mul_mod_self_left→eo3, gcd_pos_of_pos_right→eo7, lt_or_ge→ep2, toDigits→ep5, mul_assoc→eq1, mul_dvd_mul_left→eq4, div_add_mod→eq7, ne_of_gt→eq8, mul_add→er7, mul_pos→er8, Coprime→er9, lt_trichotomy→es4, lcm→es5, dvd_antisymm→et0, div_eq_of_lt→et1, le_of_eq→et2, mul_zero→et4, zero_mul→et6, gcd_comm→et8, not_lt_zero→eu1, mul_add_div→eu2
open Int renaming toNat_natCast→ed7, eq_ofNat_of_zero_le→ef0, emod_nonneg→eg6, natCast_emod→ei1, emod_lt_of_pos→ei5, toNat_of_nonneg→ek6, natCast_mul→el2, toNat→el8, emod_eq_zero_of_dvd→ep0, dvd_self_sub_emod→eq0, natCast_ediv→eq2, fdiv_eq_ediv_of_nonneg→er6
open Bool renaming false_ne_true→ed9, and_eq_true→ef7, eq_iff_iff→el0, eq_false_iff→el4, or_eq_true→eo5
open Array renaming getElem?_toList→ef2, length_toList→ef5, getElem?_eq_getElem→eo2, size_append→ep6, getElem?_eq_none→ep7, toList_extract→eq6, toList_push→es7
open Option renaming map_eq_some_iff→ei7, isSome_iff_exists→el6, isSome_map→es0
set_option Elab.async false
set_option linter.all false
set_option maxRecDepth 100000
set_option maxHeartbeats 8000000
section
local macro_rules|`(tactic|omega)=>`(tactic|lia)
local macro_rules|`(tactic|rfl')=>`(tactic|exact ⟨rfl,rfl,rfl,by decide+kernel,rfl,by decide+kernel,by decide+kernel⟩)
namespace L2
open PySem PySem.Spec PyProof.Rows
abbrev x5:=Sum Int Str
def au0:x5->Value->Bool
 | .inl k,v=>Value.isInt k v
 | .inr x,v=>Value.isStrOf x v
def dx2 (w:World):x5->Int
 | .inl k=>hashInt k
 | .inr x=>hashStr w x
theorem J2:∀{k:x5} {v:Value},au0 k v=true->(∃i t,k=Sum.inl i/\v=Value.int i t)\/(∃x t,k=Sum.inr x/\v=Value.str x t)
 | .inl i,v,h=>by
   obtain ⟨t,e⟩:=Value.isInt_shape (k:=i) (v:=v) h;exact .inl ⟨i,t,rfl,e⟩
 | .inr x,v,h=>by
   obtain ⟨t,e⟩:=Value.isStrOf_shape (x:=x) (v:=v) h;exact .inr ⟨x,t,rfl,e⟩
theorem cn2 (i:Int)(t:Tok):au0 (.inl i) (.int i t)=true:=by simp [au0,Value.isInt]
theorem cn3 (x:Str)(t:Tok):au0 (.inr x) (.str x t)=true:=by simp [au0,Value.isStrOf]
theorem dm8 (a b:Int):decide ((Sum.inl a:x5)=Sum.inl b)=(a==b):=by
 by_cases e:a=b
 · subst e;simp
 · have h:¬(Sum.inl a:x5)=Sum.inl b:=fun q=>e (Sum.inl.inj q)
   rw[decide_eq_false h];exact (beq_eq_false_iff_ne.mpr e).symm
theorem dm9 (a b:Str):decide ((Sum.inr a:x5)=Sum.inr b)=decide (a=b):=by
 by_cases e:a=b
 · subst e;simp
 · have h:¬(Sum.inr a:x5)=Sum.inr b:=fun q=>e (Sum.inr.inj q)
   rw[decide_eq_false h,decide_eq_false e]
theorem dn0 (a:Int)(b:Str):decide ((Sum.inl a:x5)=Sum.inr b)=false:=decide_eq_false (fun q=>nomatch q)
theorem dn1 (a:Str)(b:Int):decide ((Sum.inr a:x5)=Sum.inl b)=false:=decide_eq_false (fun q=>nomatch q)
def A9 (prog:Program)(w:World):PySem.KeyKind prog w x5 where
 is:=au0
 hash:=dx2 w
 inj:=fun v a b ha hb=>by
   rcases J2 ha with ⟨i,t,rfl,rfl⟩|⟨x,t,rfl,rfl⟩
   · rcases J2 hb with ⟨j,u,rfl,e⟩|⟨y,u,rfl,e⟩
     · injection e with e1 _;rw[e1]
     · exact nomatch e
   · rcases J2 hb with ⟨j,u,rfl,e⟩|⟨y,u,rfl,e⟩
     · exact nomatch e
     · injection e with e1 _;rw[e1]
 byValue:=fun k v h=>by
   rcases J2 h with ⟨i,t,rfl,rfl⟩|⟨x,t,rfl,rfl⟩<;>rfl
 pyHash:=fun hv h=>by
   rcases J2 hv with ⟨i,t,rfl,rfl⟩|⟨x,t,rfl,rfl⟩
   · exact wpAny_pyHash_int h
   · exact wpAny_pyHash_str h
 eqBool:=fun hu hv h=>by
   rcases J2 hu with ⟨i,t,rfl,rfl⟩|⟨x,t,rfl,rfl⟩
   · rcases J2 hv with ⟨j,u,rfl,rfl⟩|⟨y,u,rfl,rfl⟩
     · rw[dm8] at h;exact wpAny_eqBool_int h
     · rw[dn0] at h;exact SeqAt.EqAt.int_str i t y u _ _ _ _ h
   · rcases J2 hv with ⟨j,u,rfl,rfl⟩|⟨y,u,rfl,rfl⟩
     · rw[dn1] at h;exact SeqAt.EqAt.str_int x t j u _ _ _ _ h
     · rw[dm9] at h;exact wpAny_eqBool_str h
 «strs»:=fun k x t v h=>by
   rcases J2 h with ⟨i,u,rfl,e⟩|⟨y,u,rfl,e⟩
   · exact nomatch e
   · injection e with e1 _
     subst e1
     cases v<;>rfl
theorem aw3 (prog:Program)(w:World)(i:Int)(t:Tok):(A9 prog w).is (.inl i) (.int i t)=true:=cn2 i t
theorem Z7 (prog:Program)(w:World)(x:Str)(t:Tok):(A9 prog w).is (.inr x) (.str x t)=true:=cn3 x t
end L2
namespace L2
open PySem PySem.Spec PyProof.Rows
inductive V where
 |non|bl (b:Bool)|int (i:Int)|str (x:Str)|byt (b:Array UInt8)|flt (b:UInt64)|ref (a:Addr)|ty (n:String)
 deriving DecidableEq
def w4:V->Value->Prop
 | .non,u=>u=Value.none
 | .bl b,u=>u=Value.bool b
 | .int i,u=>∃t,u=Value.int i t
 | .str x,u=>∃t,u=Value.str x t
 | .byt b,u=>∃t,u=Value.bytes b t
 | .flt b,u=>∃t,u=Value.float b t
 | .ref a,u=>u=Value.ref a
 | .ty n,u=>u=Value.type n
abbrev o8:List V->List Value->Prop:=Paired w4
theorem o8.length {xs:List V}{us:List Value}(r:o8 xs us):xs.length=us.length:=Paired.length r
theorem o8.get:∀{xs:List V} {us:List Value} {i:Nat} {x:V},o8 xs us->xs[i]? =some x->∃u,us[i]? =some u/\w4 x u
 |_,_,_,_,.nil,e=>by simp at e
 |_,_,0,_,.cons r _,e=>by simp at e;subst e;exact ⟨_,rfl,r⟩
 |_,_,i+1,x,.cons _ t,e=>by
  obtain ⟨u,h1,h2⟩:=o8.get (i:=i) (x:=x) t (by simpa using e);exact ⟨u,by simpa using h1,h2⟩
theorem o8.set {x:V}{u:Value}(r:w4 x u):∀{xs:List V} {us:List Value} (i:Nat),o8 xs us->o8 (xs.set i x) (us.set i u)
 |_,_,_,.nil=> .nil
 |_,_,0,.cons _ t=> .cons r t
 |_,_,i+1,.cons q t=> .cons q (o8.set r i t)
theorem o8.append:∀{xs ys:List V} {us ws:List Value},o8 xs us->o8 ys ws->o8 (xs++ys) (us++ws)
 |_,_,_,_,.nil,s=>s
 |_,_,_,_,.cons r t,s=> .cons r (o8.append t s)
theorem o8.take:∀{xs:List V} {us:List Value} (n:Nat),o8 xs us->o8 (xs.take n) (us.take n)
 |_,_,0,_=> .nil
 |_,_,_+1,.nil=> .nil
 |_,_,n+1,.cons r t=> .cons r (o8.take n t)
theorem o8.drop:∀{xs:List V} {us:List Value} (n:Nat),o8 xs us->o8 (xs.drop n) (us.drop n)
 |_,_,0,r=>r
 |_,_,_+1,.nil=> .nil
 |_,_,n+1,.cons _ t=>o8.drop n t
def T8:Option V->Option Value->Prop
 |some v,some u=>w4 v u
 |none,none=>True
 |_,_=>False
def KV {κ:Type}:List (κ×V)->List (κ×Value)->Prop:=Paired fun (p:κ×V) (q:κ×Value)=>p.1=q.1/\w4 p.2 q.2
def kV:x5->V
 | .inl i=> .int i
 | .inr x=> .str x
inductive HO where
 |lst (xs:List V)
 |tup (xs:List V)
 |dK (kvs:List (x5×V))|dT (kvs:List (List x5×V))
 |set (S:Int->Bool) (n:Nat)
 |ins (C dx:Addr) (fs:List (Str×V))
 |own (x:Addr)
 |xd (fs:List (Str×V))
 |met (f x:Addr)
 |rng (lo hi:Int)
 |frz (o:Obj) (u:HO)
 |tbl (ps:Array Value)
 |ext (φ:Heap->Prop)
abbrev Hp:=Addr->Option HO
def i8 (H:Hp)(a:Addr)(o:HO):Hp:=fun b=>if b=a then some o else H b
theorem c9 {H:Hp}{a:Addr}{o:HO}:i8 H a o a=some o:=by unfold i8;rw[if_pos rfl]
theorem i6 {H:Hp}{a b:Addr}{o:HO}(h:b≠a):i8 H a o b=H b:=by unfold i8;rw[if_neg h]
theorem de8 {H:Hp}{a b:Addr}{o u:HO}(h:H a=some o)(h':H b=some u)(d:o≠u):a≠b:=by
 intro e;subst e;rw[h] at h';exact d (Option.some.inj h')
theorem i4 {H:Hp}{a b:Addr}{o:HO}(h:H a=some o)(h':H b=none):a≠b:=by
 intro e;subst e;rw[h] at h';cases h'
section
variable (P:Program) (w:World)
def A5 (H:Hp)(h:Heap)(a:Addr):HO->Prop
 | .lst xs=>xs.length<=sizeLine/\∃(its:List Value) (n:Nat),o8 xs its/\h.get? a=some {cls:= .type "list",data:= .seq its.toArray n}
 | .tup xs=>xs.length<=sizeLine/\∃its:List Value,o8 xs its/\IsTup h a its.toArray
 | .dK kvs=>kvs.length<=sizeLine/\(a==sysModules)=false/\∃vs,KV kvs vs/\h.DictOf (A9 P w) a vs
 | .dT kvs=>kvs.length<=sizeLine/\(a==sysModules)=false/\∃xs:List (List x5×Addr×Value),
     Paired (fun (p:List x5×V) (q:List x5×Addr×Value)=>p.1=q.1/\H q.2.1=some (.tup (p.1.map kV))/\w4 p.2 q.2.2) kvs xs/\
     ∃o es ep,h.get? a=some o/\o.ExactDict/\o.data= .dict es ep/\es.toList=xs.map (entryOfKey (tupleKind (A9 P w)))/\(xs.map (·.1)).Nodup
 | .set S n=>h.SetOf (intKind P w) a S n
 | .ins C dx fs=>H dx=some (.own a)/\fs.length<=1000/\dx≠a/\h.get? a=some (PySem.W.instObj C dx)/\
     ∃mA,h.Ns1 dx mA/\(∀f,T8 (fs.lookup f) (mA f))/\PySem.Within mA (fs.map (·.1))
 | .own _=>∃o,h.get? a=some o
 | .xd fs=>∃mA,h.Ns1 a mA/\∀f,T8 (fs.lookup f) (mA f)
 | .rng lo hi=>∃t u v,h.get? a=some {cls:= .type "range",data:= .fields #[.int lo t,.int hi u,.int 1 v]}
 | .frz o u=>h.get? a=some o/\A5 H h a u
 | .tbl ps=>h.get? a=some {cls:= .none,data:= .fields ps}
 | .met f x=>h.get? a=some (PySem.W.methodObj (.ref f) (.ref x))
 | .ext φ=>φ h/\(∃o,h.get? a=some o)/\∀h1 h2:Heap,φ h1->(∀o,h1.get? a=some o->h2.get? a=some o)->φ h2
def E4 (H:Hp)(h:Heap):Prop:=∀a o,H a=some o->A5 P w H h a o
end
section
variable {P:Program} {w:World} {H H':Hp} {h h':Heap} {a:Addr} {o:HO}
theorem A5.lt (x:A5 P w H h a o):a < h.objs.size:=by
 cases o with
 |lst xs=>obtain ⟨_,_,_,_,e⟩:=x;exact Heap.lt_size e
 |tup xs=>obtain ⟨_,_,_,p⟩:=x;exact p.lt
 |dK kvs=>obtain ⟨_,_,_,_,o,_,_,e,_⟩:=x;exact Heap.lt_size e
 |dT kvs=>obtain ⟨_,_,_,_,o,_,_,e,_⟩:=x;exact Heap.lt_size e
 |set S n=>obtain ⟨o,_,_,_,e,_⟩:=x;exact Heap.lt_size e
 |ins C dx fs=>obtain ⟨_,_,_,e,_⟩:=x;exact Heap.lt_size e
 |own y=>obtain ⟨_,e⟩:=x;exact Heap.lt_size e
 |xd fs=>obtain ⟨_,⟨_,_,_,e,_⟩,_⟩:=x;exact Heap.lt_size e
 |rng lo hi=>obtain ⟨_,_,_,e⟩:=x;exact Heap.lt_size e
 |frz ob u=>obtain ⟨e,_⟩:=x;exact Heap.lt_size e
 |tbl ps=>exact Heap.lt_size (show h.get? a=some _ from x)
 |met f y=>exact Heap.lt_size (show h.get? a=some _ from x)
 |ext φ=>obtain ⟨_,⟨_,e⟩,_⟩:=x;exact Heap.lt_size e
theorem Paired.mapP {α β:Type}{F G:α->β->Prop}:∀{l₁:List α} {l₂:List β},Paired F l₁ l₂->(∀a b,F a b->G a b)->Paired G l₁ l₂
 |_,_,.nil,_=> .nil
 |_,_,.cons r t,f=> .cons (f _ _ r) (Paired.mapP t f)
theorem A5.stay (x:A5 P w H h a o)(k:∀b u,(b=a\/H b=some (.own a))->h.get? b=some u->h'.get? b=some u)
   (ho:∀b,H b=some (.own a)->H' b=some (.own a)) (ht:∀b xs,H b=some (.tup xs)->H' b=some (.tup xs)):A5 P w H' h' a o:=by
 induction o with
 |lst xs=>obtain ⟨z,its,n,r,e⟩:=x;exact ⟨z,its,n,r,k _ _ (.inl rfl) e⟩
 |tup xs=>obtain ⟨z,its,r,ob,e,c⟩:=x;exact ⟨z,its,r,ob,k _ _ (.inl rfl) e,c⟩
 |dK kvs=>obtain ⟨z,y,vs,r,ob,es,ep,e,c⟩:=x;exact ⟨z,y,vs,r,ob,es,ep,k _ _ (.inl rfl) e,c⟩
 |dT kvs=>
  obtain ⟨z,y,xs,r,ob,es,ep,e,c⟩:=x;exact ⟨z,y,xs,Paired.mapP r fun p q z=>⟨z.1,ht _ _ z.2.1,z.2.2⟩,ob,es,ep,k _ _ (.inl rfl) e,c⟩
 |set S n=>obtain ⟨ob,es,ep,t,e,c⟩:=x;exact ⟨ob,es,ep,t,k _ _ (.inl rfl) e,c⟩
 |ins C dx fs=>
  obtain ⟨d,z,ne,e,mA,⟨od,es,ep,e2,c⟩,r⟩:=x;exact ⟨ho _ d,z,ne,k _ _ (.inl rfl) e,mA,⟨od,es,ep,k _ _ (.inr d) e2,c⟩,r⟩
 |own y=>obtain ⟨ob,e⟩:=x;exact ⟨ob,k _ _ (.inl rfl) e⟩
 |xd fs=>obtain ⟨mA,⟨od,es,ep,e,c⟩,r⟩:=x;exact ⟨mA,⟨od,es,ep,k _ _ (.inl rfl) e,c⟩,r⟩
 |rng lo hi=>obtain ⟨t,u,v,e⟩:=x;exact ⟨t,u,v,k _ _ (.inl rfl) e⟩
 |frz ob u ih=>obtain ⟨e,q⟩:=x;exact ⟨k _ _ (.inl rfl) e,ih q⟩
 |tbl ps=>
  have e:h.get? a=some {cls:= .none,data:= .fields ps}:=x;show h'.get? a=some {cls:= .none,data:= .fields ps};exact k a _ (.inl rfl) e
 |met f y=>
  have e:h.get? a=some (PySem.W.methodObj (.ref f) (.ref y)):=x;show h'.get? a=some (PySem.W.methodObj (.ref f) (.ref y));exact k a _ (.inl rfl) e
 |ext φ=>obtain ⟨p,⟨o,e⟩,st⟩:=x;exact ⟨st _ _ p fun o q=>k _ _ (.inl rfl) q,⟨o,k _ _ (.inl rfl) e⟩,st⟩
theorem E4.lt (x:E4 P w H h)(e:H a=some o):a < h.objs.size:=(x a o e).lt
theorem E4.fresh (x:E4 P w H h)(e:h.objs.size<=a):H a=none:=by
 cases q:H a with
 |none=>rfl
 |some u=>exact absurd (ee9 (x.lt q) e) (eh8 _)
theorem E4.kept (x:E4 P w H h)(k:∀b u,h.get? b=some u->h'.get? b=some u):E4 P w H h':=fun a o e=>
 (x a o e).stay (fun b u _ q=>k b u q) (fun _ q=>q) fun _ _ q=>q
theorem E4.laid (x:E4 P w H h)(k:∀b u,h.get? b=some u->h'.get? b=some u)(hp:h.objs.size<=a)(new:A5 P w (i8 H a o) h' a o):E4 P w (i8 H a o) h':=fun b u e=>by
 have hn:=x.fresh hp
 by_cases hb:b=a
 · subst hb;rw[c9] at e;cases e;exact new
 · rw[i6 hb] at e
   exact (x b u e).stay (fun c v _ q=>k c v q) (fun c q=>by rw[i6 (i4 q hn)];exact q) fun c xs q=>by rw[i6 (i4 q hn)];exact q
end
def Rd (H:Hp)(a:Addr)(u:HO):Prop:=H a=some u\/∃o,H a=some (.frz o u)
theorem Rd.ok {P:Program}{w:World}{H:Hp}{h:Heap}{a:Addr}{u:HO}(r:Rd H a u)(x:E4 P w H h):A5 P w H h a u:=by
 rcases r with r|⟨o,r⟩
 · exact x a u r
 · obtain ⟨_,q⟩:=x a _ r;exact q
def Mut:Option HO->Prop
 |some (.lst _)=>True
 |some (.dK _)=>True
 |some (.dT _)=>True
 |some (.set _ _)=>True
 |some (.ins _ _ _)=>True
 |some (.ext _)=>True
 |_=>False
section
variable {P:Program} {w:World} {H:Hp} {h h':Heap} {x e:Addr} {o':HO}
theorem E4.write (ok:E4 P w H h)(mu:Mut (H x))(he:e=x\/H e=some (.own x))(k:∀b u,b≠e->h.get? b=some u->h'.get? b=some u)(heo:∃u,h'.get? e=some u)
   (new:A5 P w (i8 H x o') h' x o'):E4 P w (i8 H x o') h':=fun b u q=>by
 have nown:∀c y,H c=some (.own y)->c≠x:=fun c y r z=>by subst z;rw[r] at mu;exact mu
 have ntup:∀c xs,H c=some (.tup xs)->c≠x:=fun c xs r z=>by subst z;rw[r] at mu;exact mu
 by_cases hb:b=x
 · subst hb;rw[c9] at q;cases q;exact new
 · rw[i6 hb] at q
   by_cases hbe:b=e
   · have q':H b=some (.own x):=by
       rcases he with z|z
       · exact absurd (hbe.trans z) hb
       · rw[hbe];exact z
     rw[q] at q';cases q';obtain ⟨v,hv⟩:=heo;exact ⟨v,by rw[hbe];exact hv⟩
   · refine (ok b u q).stay (fun c v hc r=>k c v ?_ r) (fun c r=>by rw[i6 (nown c b r)];exact r) fun c xs r=>by rw[i6 (ntup c xs r)];exact r
     rcases hc with rfl|hc
     · exact hbe
     · rintro rfl
       rcases he with z|z
       · exact nown c b hc z
       · rw[hc] at z;cases z;exact hb rfl
end
structure Un (fs ex:List Addr)(H H':Hp)(h h':Heap):Prop where
 keep:∀b o,h.get? b=some o->H b=none->b∉fs->b∉ex->h'.get? b=some o
 slot:∀b o,h.get? b=some o->H b=none->b∈fs->b∉ex->∃sl,h'.get? b=some {o with slots:=sl}
 free:∀b o,h.get? b=some o->H b=none->b∉ex->H' b=none
 there:∀b o,h.get? b=some o->b∉ex->∃o',h'.get? b=some o'
 tups:∀b xs,H b=some (.tup xs)->H' b=some (.tup xs)
 frzs:∀b o u,H b=some (.frz o u)->H' b=some (.frz o u)
 tbls:∀b ps,H b=some (.tbl ps)->∃more,H' b=some (.tbl (ps++more))
section
variable {fs fs' ex ex':List Addr} {H H1 H2:Hp} {h h1 h2 h':Heap} {a x e:Addr} {o:HO}
theorem Un.any (u:Un fs ex H H1 h h1){b:Addr}{ob:Obj}(q:h.get? b=some ob)(n:H b=none)(hx:b∉ex):∃sl,h1.get? b=some {ob with slots:=sl}:=by
 by_cases hb:b∈fs
 · exact u.slot b ob q n hb hx
 · exact ⟨ob.slots,u.keep b ob q n hb hx⟩
theorem Un.kept (k:∀b u,h.get? b=some u->h'.get? b=some u):Un fs ex H H h h':=
 ⟨fun b ob q _ _ _=>k b ob q,fun b ob q _ _ _=>⟨ob.slots,k b ob q⟩,fun _ _ _ n _=>n,fun b ob q _=>⟨ob,k b ob q⟩,fun _ _ q=>q,fun _ _ _ q=>q,fun _ ps q=>⟨#[],by rw[q];simp⟩⟩
theorem Un.refl:Un fs ex H H h h:=Un.kept fun _ _ q=>q
theorem Un.laid (k:∀b u,h.get? b=some u->h'.get? b=some u)(hp:h.objs.size<=a)(hn:H a=none):Un fs ex H (i8 H a o) h h' where
 keep:=fun b u q _ _ _=>k b u q
 slot:=fun b u q _ _ _=>⟨u.slots,k b u q⟩
 free:=fun b u q n _=>by rw[i6 (ed2 (ee9 (Heap.lt_size q) hp))];exact n
 there:=fun b u q _=>⟨u,k b u q⟩
 tups:=fun b xs q=>by rw[i6 (i4 q hn)];exact q
 frzs:=fun b u xs q=>by rw[i6 (i4 q hn)];exact q
 tbls:=fun b ps q=>⟨#[],by rw[i6 (i4 q hn),q];simp⟩
theorem Un.write (mu:Mut (H x))(he:e=x\/H e=some (.own x))(k:∀b u,b≠e->h.get? b=some u->h'.get? b=some u)(heo:∃u,h'.get? e=some u):Un fs ex H (i8 H x o) h h':=by
 have hx:∀b,H b=none->b≠x:=fun b n z=>by subst z;rw[n] at mu;exact mu
 have hb:∀b,H b=none->b≠e:=fun b n z=>by
   subst z
   rcases he with r|r
   · exact hx b n r
   · rw[n] at r;cases r
 have hm:∀b u,H b=some u->¬Mut (some u)->b≠x:=fun b u q nm z=>by subst z;rw[q] at mu;exact nm mu
 refine ⟨fun b u q n _ _=>k b u (hb b n) q,fun b u q n _ _=>⟨u.slots,k b u (hb b n) q⟩,fun b u q n _=>by rw[i6 (hx b n)];exact n,fun b u q _=> ?_,
   fun b xs q=>by rw[i6 (hm b _ q fun z=>z)];exact q,fun b u xs q=>by rw[i6 (hm b _ q fun z=>z)];exact q,fun b ps q=>⟨#[],by rw[i6 (hm b _ q fun z=>z),q];simp⟩⟩
 by_cases hbe:b=e
 · subst hbe;exact heo
 · exact ⟨u,k b u hbe q⟩
end
def trk (h:Heap)(H:Hp):List Addr:=(eh4 h.objs.size).filter fun a=>(H a).isSome
def al1 (h:Heap)(H:Hp):Heap:=PySem.W.hideAll h (trk h H)
theorem cn5 (h:Heap)(H:Hp):(al1 h H).objs.size=h.objs.size:=PySem.W.hideAll_size _ _
theorem cy3 {h:Heap}{H:Hp}{b:Addr}{o:Obj}(e:h.get? b=some o)(n:H b=none):(al1 h H).get? b=some o:=
 PySem.W.hideAll_get _ e fun hm=>by
   have q:(H b).isSome=true:=(ej9.mp hm).2;rw[n] at q;simp at q
theorem dh2 {h:Heap}{H:Hp}{b:Addr}{o:Obj}(e:(al1 h H).get? b=some o):h.get? b=some o/\H b=none:=by
 have e':h.get? b=some o:=PySem.W.of_hideAll (trk h H) e;refine ⟨e',?_⟩
 cases q:H b with
 |none=>rfl
 |some x=>
  have hm:b∈trk h H:=ej9.mpr ⟨eg8.mpr (Heap.lt_size e'),by simp [q]⟩;have z:(al1 h H).get? b=none:=PySem.W.hideAll_none (trk h H) hm;rw[z] at e;cases e
end L2
namespace L2
open PySem PySem.Spec PyProof.Rows
structure Mod (K:PySem.W.Frag)(mg:Str->Option Value)(base:Heap):Prop where
 kin:K.In base
 glob:base.Ns mainGlobals mg
 blt:∃mb,base.Ns builtinsNs mb/\∀x:Str,x≠"__name__"->mb x=bootBuiltins x
 nolimit:base.NoLimit
structure Cx where
 prog:Program
 w:World
 K:PySem.W.Frag
 mg:Str->Option Value
 base:Heap
 A:Around
 N:List Str
 s₀:Shared
 H₀:Hp
 env:Env
 outer:List Env
 stack:List Env
 ex:List Addr
 fn:Str->Bool
 calm:Bool
 pn:List (Addr×Obj)
 xe:Value->Shared->Prop
def C5 (l:List Env):List Addr:=l.filterMap (·.frame)
abbrev Cx.fs (X:Cx):List Addr:=C5 X.outer
def Vis (sc:Scope)(x:Str):Prop:=sc.names.lookup x=some .local\/sc.names.lookup x=some .cell\/sc.names.lookup x=some .free
def Loc (sc:Scope)(x:Str):Prop:=sc.names.lookup x=some .local\/sc.names.lookup x=some .cell
def dx3 (env:Env)(h:Heap)(m:Str->Option Value)(x:Str)(u:Value):Prop:=
 (env.kindOf x=some .local/\m x=some u)\/((env.kindOf x=some .cell\/env.kindOf x=some .free)/\∃c,env.cells.lookup x=some c/\h.IsCell c (some u))
structure Cx.Ok (X:Cx):Prop where
 mod:Mod X.K X.mg X.base
 kind:X.env.scope.kind= .function
 glob:X.env.globals=mainGlobals
 blt:X.env.builtins=builtinsNs
 above:X.s₀.heap.objs.size<=X.env.locals
 inj:∀x y c,X.env.cells.lookup x=some c->X.env.cells.lookup y=some c->x=y
 has:∀x,(X.env.kindOf x=some .cell\/X.env.kindOf x=some .free)->∃c,X.env.cells.lookup x=some c
 cab:∀x c,X.fn x=true->X.env.cells.lookup x=some c->X.s₀.heap.objs.size<=c
 hd:X.calm=true->X.A.handled=none
 frames:X.A.frames=some X.stack
 stk:X.stack=X.outer\/(X.stack=X.env::X.outer/\X.env.frame=some X.env.locals)
 exf:∀b∈X.ex,b≠X.env.locals/\∀x c,X.env.cells.lookup x=some c->c≠b
 bs:∀b o,X.base.get? b=some o->X.s₀.heap.get? b=some o/\X.H₀ b=none
 bsz:X.base.objs.size<=X.s₀.heap.objs.size
 noex:∀b o,X.base.get? b=some o->b∉X.ex
 exfs:∀b∈X.ex,b∉X.fs
 funs:X.s₀.heap.FunFrames X.base X.outer
 frf:∀b∈X.fs,X.H₀ b=none
structure i9 (X:Cx)(pins:List (Addr×Obj))(σ:List (Option V))(H:Hp)(s:Shared):Prop where
 ok:X.Ok
 os:s.os=X.s₀.os
 bare:AllBare s.gens
 base:Un X.fs X.ex X.H₀ H X.s₀.heap s.heap
 loc:∃m,s.heap.Ns X.env.locals m/\∀(i:Nat) (x:Str) (v:V),X.N[i]? =some x->σ[i]? =some (some v)->Vis X.env.scope x->∃u,w4 v u/\dx3 X.env s.heap m x u
 cell:∀x c,X.env.cells.lookup x=some c->∃v,s.heap.IsCell c v
 free:H X.env.locals=none
 freeC:∀x c,X.env.cells.lookup x=some c->H c=none
 pin:∀p∈X.pn++pins,s.heap.get? p.1=some p.2/\H p.1=none/\p.1≠X.env.locals/\p.1∉X.fs/\∀v,p.2.data≠.cell v
 hok:E4 X.prog X.w H s.heap
 len:σ.length=X.N.length
section
variable {X:Cx} {pins:List (Addr×Obj)} {σ:List (Option V)} {H H':Hp} {s:Shared} {h':Heap}
theorem Cx.Ok.nofr (ok:X.Ok){b:Addr}{o:Obj}(e:X.base.get? b=some o):b∉X.fs:=fun hb=>by
 have:=(ok.funs.mem hb).1;rw[e] at this;cases this
theorem i9.bs (I:i9 X pins σ H s):∀b o,X.base.get? b=some o->s.heap.get? b=some o/\H b=none:=fun b o e=>
 ⟨I.base.keep b o (I.ok.bs b o e).1 (I.ok.bs b o e).2 (I.ok.nofr e) (I.ok.noex b o e),I.base.free b o (I.ok.bs b o e).1 (I.ok.bs b o e).2 (I.ok.noex b o e)⟩
theorem i9.bk (I:i9 X pins σ H s):∀b o,X.base.get? b=some o->s.heap.get? b=some o:=fun b o e=>(I.bs b o e).1
theorem i9.mod (I:i9 X pins σ H s):Mod X.K X.mg X.base:=I.ok.mod
theorem i9.kIn (I:i9 X pins σ H s):X.K.In s.heap:=I.ok.mod.kin.keeps I.bk
theorem i9.lt (I:i9 X pins σ H s):X.env.locals < s.heap.objs.size:=let ⟨_,hn,_⟩:=I.loc;hn.lt
theorem i9.sz (I:i9 X pins σ H s):X.s₀.heap.objs.size<=s.heap.objs.size:=ee0 I.ok.above (eh9 I.lt)
theorem i9.nofs (I:i9 X pins σ H s){a:Addr}(h:s.heap.objs.size<=a):a∉X.fs:=fun hb=>by
 obtain ⟨_,o,ho,_⟩:=I.ok.funs.mem hb;exact absurd (ee9 (Heap.lt_size ho) (ee0 I.sz h)) (eh8 _)
theorem i9.cne (I:i9 X pins σ H s):∀x c,X.env.cells.lookup x=some c->c≠X.env.locals:=fun x c e z=>by
 obtain ⟨v,o,ho,hd⟩:=I.cell x c e;obtain ⟨m,⟨o',es,ep,ho',hd',_⟩,_⟩:=I.loc;rw[z,ho'] at ho;cases ho;rw[hd'] at hd;cases hd
theorem i9.funs (I:i9 X pins σ H s):s.heap.FunFrames X.base X.outer:=by
 have all:∀(l:List Env),(∀b∈C5 l,b∈X.fs)->X.s₀.heap.FunFrames X.base l->s.heap.FunFrames X.base l:=by
   intro l
   induction l with
   |nil=>intro _ _;trivial
   |cons env r ih=>
    intro hs hl;obtain ⟨hk,⟨L,o,hf,hn,ho,hd⟩,hr⟩:=hl;have hL:L∈X.fs:=hs L (by unfold C5;rw[ei9,hf];exact ec5)
    obtain ⟨sl,e⟩:=I.base.slot L o ho (I.ok.frf L hL) hL fun z=>I.ok.exfs L z hL
    exact ⟨hk,⟨L,_,hf,hn,e,hd⟩,ih (fun b hb=>hs b (by unfold C5;rw[ei9,hf];exact ec9 _ hb)) hr⟩
 exact all X.outer (fun _ hb=>hb) I.ok.funs
theorem i9.stack (I:i9 X pins σ H s):s.heap.FunFrames X.base X.stack:=by
 rcases I.ok.stk with e|⟨e,hf⟩
 · rw[e];exact I.funs
 · rw[e];obtain ⟨m,hn,_⟩:=I.loc;refine .cons (by rw[I.ok.kind];decide) hf hn ?_ I.funs;exact Heap.get?_none_of_le (ee0 I.ok.bsz I.ok.above)
theorem i9.stkSub (I:i9 X pins σ H s):∀b∈C5 X.stack,b∈X.env.locals::X.fs:=fun b hb=>by
 rcases I.ok.stk with e|⟨e,hf⟩
 · rw[e] at hb;exact ec9 _ hb
 · rw[e] at hb;unfold C5 at hb;rw[ei9,hf] at hb;exact hb
theorem i9.stkFree (I:i9 X pins σ H s):∀b∈C5 X.stack,H b=none:=fun b hb=>by
 rcases ec8.mp (I.stkSub b hb) with e|hb
 · rw[e];exact I.free
 · obtain ⟨_,o,ho,_⟩:=I.ok.funs.mem hb
   exact I.base.free b o ho (I.ok.frf b hb) fun z=>I.ok.exfs b z hb
theorem i9.step {g':Array GenState}{t':Nat}{d':Drawn}{ch:List Addr}(I:i9 X pins σ H s)
   (hch:∀b∈ch,(b∈X.ex\/X.s₀.heap.objs.size<=b)/\b≠X.env.locals/\(∀x c,X.env.cells.lookup x=some c->c≠b)/\∀p∈X.pn++pins,p.1≠b)
   (keep:∀b o,b≠X.env.locals->b∉X.fs->b∉ch->s.heap.get? b=some o->H b=none->h'.get? b=some o)
   (slot:∀b o,b≠X.env.locals->b∈X.fs->b∉ch->s.heap.get? b=some o->H b=none->∃sl,h'.get? b=some {o with slots:=sl}) (free:∀b o,b∉ch->s.heap.get? b=some o->H b=none->H' b=none)
   (there:∀b o,b∉ch->s.heap.get? b=some o->∃o',h'.get? b=some o')
   (tups:∀b xs,H b=some (.tup xs)->H' b=some (.tup xs)) (frzs:∀b o u,H b=some (.frz o u)->H' b=some (.frz o u)) (tbls:∀b ps,H b=some (.tbl ps)->∃more,H' b=some (.tbl (ps++more)))
   (ns:∀m,s.heap.Ns X.env.locals m->h'.Ns X.env.locals m) (hok:E4 X.prog X.w H' h') (hg:AllBare g'):
   i9 X pins σ H' {s with heap:=h',gens:=g',drawn:=d',toks:=t'}:=by
 have neL:∀b o,X.s₀.heap.get? b=some o->b≠X.env.locals:=fun b o e=>ed2 (ee9 (Heap.lt_size e) I.ok.above)
 have neC:∀b o,X.s₀.heap.get? b=some o->b∉X.ex->b∉ch:=fun b o e hx hb=>by
   rcases (hch b hb).1 with z|z
   · exact hx z
   · exact absurd (ee9 (Heap.lt_size e) z) (eh8 _)
 have cellK:∀x c,X.env.cells.lookup x=some c->∀v,s.heap.IsCell c v->h'.IsCell c v:=fun x c e v ⟨o,ho,hd⟩=>by
   have nch:c∉ch:=fun z=>(hch c z).2.2.1 x c e rfl
   by_cases hc:c∈X.fs
   · obtain ⟨sl,q⟩:=slot c o (I.cne x c e) hc nch ho (I.freeC x c e);exact ⟨_,q,hd⟩
   · exact ⟨o,keep c o (I.cne x c e) hc nch ho (I.freeC x c e),hd⟩
 refine ⟨I.ok,I.os,hg,⟨fun b o e n hb hx=> ?_,fun b o e n hb hx=> ?_,fun b o e n hx=> ?_,fun b o e hx=> ?_,fun b xs e=>tups b xs (I.base.tups b xs e),fun b o xs e=>frzs b o xs (I.base.frzs b o xs e),fun b ps e=> ?_⟩,?_,fun x c e=> ?_,?_,fun x c e=> ?_,fun p hp=> ?_,hok,I.len⟩
 · exact keep b o (neL b o e) hb (neC b o e hx) (I.base.keep b o e n hb hx) (I.base.free b o e n hx)
 · obtain ⟨sl,e1⟩:=I.base.slot b o e n hb hx;obtain ⟨sl',e2⟩:=slot b _ (neL b o e) hb (neC b o e hx) e1 (I.base.free b o e n hx);exact ⟨sl',e2⟩
 · obtain ⟨o',e1⟩:=I.base.there b o e hx;exact free b o' (neC b o e hx) e1 (I.base.free b o e n hx)
 · obtain ⟨o',e1⟩:=I.base.there b o e hx;exact there b o' (neC b o e hx) e1
 · obtain ⟨m1,e1⟩:=I.base.tbls b ps e;obtain ⟨m2,e2⟩:=tbls b _ e1;exact ⟨m1++m2,by rw[e2,Array.append_assoc]⟩
 · obtain ⟨m,hn,hl⟩:=I.loc;refine ⟨m,ns m hn,fun i x v e1 e2 e3=> ?_⟩;obtain ⟨u,r,l⟩:=hl i x v e1 e2 e3;refine ⟨u,r,?_⟩
   rcases l with l|⟨k,c,e,z⟩
   · exact .inl l
   · exact .inr ⟨k,c,e,cellK x c e _ z⟩
 · obtain ⟨v,z⟩:=I.cell x c e;exact ⟨v,cellK x c e v z⟩
 · obtain ⟨m,⟨o,_,_,ho,_⟩,_⟩:=I.loc;exact free _ o (fun z=>(hch _ z).2.1 rfl) ho I.free
 · obtain ⟨v,o,ho,hd⟩:=I.cell x c e;exact free c o (fun z=>(hch c z).2.2.1 x c e rfl) ho (I.freeC x c e)
 · obtain ⟨e,n,ne,nf,d⟩:=I.pin p hp
   have nch:p.1∉ch:=fun z=>(hch p.1 z).2.2.2 p hp rfl
   exact ⟨keep p.1 p.2 ne nf nch e n,free p.1 p.2 nch e n,ne,nf,d⟩
theorem i9.un {t':Nat}(I:i9 X pins σ H s)(u:Un X.fs [] H H' s.heap h')(hok:E4 X.prog X.w H' h'):i9 X pins σ H' {s with heap:=h',toks:=t'}:=by
 obtain ⟨m,⟨o,es,ep,ho,r⟩,_⟩:=id I.loc;obtain ⟨sl,hL⟩:=u.any ho I.free (by simp)
 exact I.step (g':=s.gens) (d':=s.drawn) (ch:=[]) (fun _ z=>nomatch z) (fun b o _ hb _ e n=>u.keep b o e n hb (by simp)) (fun b o _ hb _ e n=>u.slot b o e n hb (by simp)) (fun b o _ e n=>u.free b o e n (by simp)) (fun b o _ e=>u.there b o e (by simp)) u.tups u.frzs u.tbls (fun m' hm=>by
   obtain ⟨o',es',ep',ho',r'⟩:=hm;rw[ho] at ho';cases ho'
   exact ⟨_,es',ep',hL,r'⟩) hok I.bare
theorem i9.call {g':Array GenState}{t':Nat}{d':Drawn}{ch:List Addr}(I:i9 X pins σ H s)(u:Un (C5 X.stack) ch H H' s.heap h')(hok:E4 X.prog X.w H' h')(hg:AllBare g')
   (hch:∀b∈ch,(b∈X.ex\/X.s₀.heap.objs.size<=b)/\b≠X.env.locals/\(∀x c,X.env.cells.lookup x=some c->c≠b)/\∀p∈X.pn++pins,p.1≠b):
   i9 X pins σ H' {s with heap:=h',gens:=g',drawn:=d',toks:=t'}:=by
 obtain ⟨m,⟨o,es,ep,ho,r⟩,_⟩:=id I.loc
 obtain ⟨sl,hL⟩:=u.any ho I.free fun z=>(hch _ z).2.1 rfl
 exact I.step (ch:=ch) hch (fun b o hL hb hc e n=>u.keep b o e n (fun z=>(ec8.mp (I.stkSub b z)).elim hL hb) hc) (fun b o _ _ hc e n=>u.any e n hc) (fun b o hc e n=>u.free b o e n hc) (fun b o hc e=>u.there b o e hc) u.tups u.frzs u.tbls (fun m' hm=>by
   obtain ⟨o',es',ep',ho',r'⟩:=hm;rw[ho] at ho';cases ho'
   exact ⟨_,es',ep',hL,r'⟩) hok hg
theorem i9.turned {t':Nat}{it:Addr}(I:i9 X pins σ H s)(k:∀b o,b≠it->s.heap.get? b=some o->h'.get? b=some o)(hn:H it=none)(hL:it≠X.env.locals)
   (h1:it∈X.ex\/X.s₀.heap.objs.size<=it) (h2:∀x c,X.env.cells.lookup x=some c->c≠it) (h3:∀p∈X.pn++pins,p.1≠it):i9 X pins σ H {s with heap:=h',toks:=t'}:=by
 have nit:∀b u,H b=some u->b≠it:=fun b u e z=>by rw[z,hn] at e;cases e
 refine I.step (g':=s.gens) (d':=s.drawn) (ch:=[it]) (fun b hb=> ?_) (fun b o _ _ hc e _=>k b o (fun z=>hc (by simp [z])) e) (fun b o _ _ hc e _=>⟨o.slots,k b o (fun z=>hc (by simp [z])) e⟩) (fun _ _ _ _ n=>n)
   (fun b o hc e=>⟨o,k b o (fun z=>hc (by simp [z])) e⟩) (fun _ _ e=>e) (fun _ _ _ e=>e) (fun b ps e=>⟨#[],by rw[e];simp⟩) (fun m hm=> ?_) (fun b u e=> ?_) I.bare
 · have e:b=it:=by simpa using hb
   subst e;exact ⟨h1,hL,h2,h3⟩
 · obtain ⟨o,es,ep,ho,r⟩:=hm;exact ⟨o,es,ep,k _ o (Ne.symm hL) ho,r⟩
 · refine (I.hok b u e).stay (fun c v hc q=>k c v ?_ q) (fun _ q=>q) fun _ _ q=>q
   rcases hc with z|z
   · rw[z];exact nit b u e
   · exact nit c _ z
theorem i9.tok (I:i9 X pins σ H s)(t:Nat):i9 X pins σ H {s with toks:=t}:=I.un (h':=s.heap) (t':=t) Un.refl I.hok
theorem i9.kept {t':Nat}(I:i9 X pins σ H s)(k:∀b u,s.heap.get? b=some u->h'.get? b=some u):i9 X pins σ H {s with heap:=h',toks:=t'}:=I.un (Un.kept k) (I.hok.kept k)
theorem i9.laid {a:Addr}{o:HO}{t':Nat}(I:i9 X pins σ H s)(k:∀b u,s.heap.get? b=some u->h'.get? b=some u)(hp:s.heap.objs.size<=a)(new:A5 X.prog X.w (i8 H a o) h' a o):
 i9 X pins σ (i8 H a o) {s with heap:=h',toks:=t'}:=I.un (Un.laid k hp (I.hok.fresh hp)) (I.hok.laid k hp new)
theorem i9.write {x e:Addr}{o:HO}{t':Nat}(I:i9 X pins σ H s)(mu:Mut (H x))(he:e=x\/H e=some (.own x))(k:∀b u,b≠e->s.heap.get? b=some u->h'.get? b=some u)(heo:∃u,h'.get? e=some u)
 (new:A5 X.prog X.w (i8 H x o) h' x o):i9 X pins σ (i8 H x o) {s with heap:=h',toks:=t'}:=I.un (Un.write mu he k heo) (I.hok.write mu he k heo new)
theorem i9.pins_of {pins':List (Addr×Obj)}(I:i9 X pins σ H s)(h:∀p∈pins',s.heap.get? p.1=some p.2/\H p.1=none/\p.1≠X.env.locals/\p.1∉X.fs/\∀v,p.2.data≠.cell v):i9 X pins' σ H s:=
 ⟨I.ok,I.os,I.bare,I.base,I.loc,I.cell,I.free,I.freeC,fun p hp=>(ed8.mp hp).elim (fun z=>I.pin p (eg0 _ z)) (h p),I.hok,I.len⟩
theorem ax6 {N:List Str}(hN:N.Nodup){i j:Nat}{x:Str}(a:N[i]? =some x)(b:N[j]? =some x):i=j:=by
 obtain ⟨h1,e1⟩:=ec0.mp a;obtain ⟨h2,e2⟩:=ec0.mp b;exact (List.getElem_inj hN).mp (e1.trans e2.symm)
theorem bk1 {M:Model}{A:Around}{E:Value->Shared->Prop}{i:Nat}{x:Str}{v:V}{u:Value}{Q:Unit->Shared->Prop}(I:i9 X pins σ H s)(hN:X.N.Nodup)(hi:X.N[i]? =some x)(hx:Loc X.env.scope x)(r:w4 v u)
   (h:∀s',i9 X pins (σ.set i (some v)) H s'->(∃a,Heap.SameBut a s.heap s'.heap/\(a=X.env.locals\/X.env.cells.lookup x=some a))->Q () s') (hf:X.fn x=true\/X.env.scope.names.lookup x=some .local:=by first|exact .inl rfl|exact .inr rfl|assumption):wpAny M A (storeName X.env x u) Q E s:=by
 obtain ⟨m,hn,hl⟩:=id I.loc
 have hcls:(X.env.scope.kind== .class||(X.env.scope.kind== .module&&X.env.locals !=X.env.globals))=false:=by rw[I.ok.kind];rfl
 have hiσ:i < σ.length:=by rw[I.len];exact (ec0.mp hi).1
 have cne:=I.cne
 have tracked:∀{a:Addr} {h':Heap},(∃o,s.heap.get? a=some o/\H a=none)->Heap.SameBut a s.heap h'->E4 X.prog X.w H h':=fun {a h'} ha hs b ob e=>by
   obtain ⟨_,_,hfree⟩:=ha
   refine (I.hok b ob e).stay (fun c w' hc q=>(hs.2 c ?_).trans q) (fun _ q=>q) fun _ _ q=>q
   rintro rfl
   rcases hc with rfl|hc
   · rw[hfree] at e;cases e
   · rw[hfree] at hc;cases hc
 rcases hx with hk|hk
 · refine wpAny_storeName_local hk hn (fun h' hn' hs=> ?_) hcls;obtain ⟨oL,_,_,hoL,_⟩:=id hn;refine h _ ⟨I.ok,I.os,I.bare,⟨fun b o e n hb hx=> ?_,fun b o e n hb hx=> ?_,I.base.free,fun b o e hx=> ?_,I.base.tups,I.base.frzs,I.base.tbls⟩,⟨_,hn',fun j y v' e1 e2 e3=> ?_⟩,fun y c e=> ?_,I.free,I.freeC,fun p hp=> ?_,tracked ⟨oL,hoL,I.free⟩ hs,by simpa using I.len⟩ ⟨_,hs,.inl rfl⟩
   · exact (hs.2 b (ed2 (ee9 (Heap.lt_size e) I.ok.above))).trans (I.base.keep b o e n hb hx)
   · obtain ⟨sl,e1⟩:=I.base.slot b o e n hb hx;exact ⟨sl,(hs.2 b (ed2 (ee9 (Heap.lt_size e) I.ok.above))).trans e1⟩
   · obtain ⟨o',e1⟩:=I.base.there b o e hx;exact ⟨o',(hs.2 b (ed2 (ee9 (Heap.lt_size e) I.ok.above))).trans e1⟩
   · by_cases hj:j=i
     · subst hj;rw[hi] at e1;cases e1;rw[em2 hiσ] at e2;cases e2;exact ⟨u,r,.inl ⟨hk,by simp⟩⟩
     · rw[en6 (Ne.symm hj)] at e2;obtain ⟨u',r',q⟩:=hl j y v' e1 e2 e3;refine ⟨u',r',?_⟩
       rcases q with ⟨k,e⟩|⟨k,c,e,z⟩
       · refine .inl ⟨k,?_⟩
         have:y≠x:=fun e=>hj (ax6 hN e1 (e▸hi))
         simp [this,e]
       · exact .inr ⟨k,c,e,z.sameBut hs (cne y c e)⟩
   · obtain ⟨w',z⟩:=I.cell y c e;exact ⟨w',z.sameBut hs (cne y c e)⟩
   · obtain ⟨e,n,ne,nf,d⟩:=I.pin p hp;exact ⟨(hs.2 p.1 ne).trans e,n,ne,nf,d⟩
 · have hfn:X.fn x=true:=by
     rcases hf with z|z
     · exact z
     · rw[z] at hk;cases hk
   obtain ⟨c,hc⟩:=I.ok.has x (.inl hk);obtain ⟨w',z⟩:=I.cell x c hc;refine wpAny_storeName_cell I.ok.kind hk hc z (fun h' hc' hs=> ?_);obtain ⟨oc,hoc,hocd⟩:=id z;refine h {s with heap:=h'} ⟨I.ok,I.os,I.bare,⟨fun b o e n hb hx=> ?_,fun b o e n hb hx=> ?_,I.base.free,fun b o e hx=> ?_,I.base.tups,I.base.frzs,I.base.tbls⟩,⟨m,hn.sameBut hs (Ne.symm (cne x c hc)),fun j y v' e1 e2 e3=> ?_⟩,fun y c' e=> ?_,I.free,I.freeC,fun p hp=> ?_,tracked ⟨oc,hoc,I.freeC x c hc⟩ hs,by simpa using I.len⟩ ⟨c,hs,.inr hc⟩
   · exact (hs.2 b (ed2 (ee9 (Heap.lt_size e) (I.ok.cab x c hfn hc)))).trans (I.base.keep b o e n hb hx)
   · obtain ⟨sl,e1⟩:=I.base.slot b o e n hb hx;exact ⟨sl,(hs.2 b (ed2 (ee9 (Heap.lt_size e) (I.ok.cab x c hfn hc)))).trans e1⟩
   · obtain ⟨o',e1⟩:=I.base.there b o e hx;exact ⟨o',(hs.2 b (ed2 (ee9 (Heap.lt_size e) (I.ok.cab x c hfn hc)))).trans e1⟩
   · by_cases hj:j=i
     · subst hj;rw[hi] at e1;cases e1;rw[em2 hiσ] at e2;cases e2;exact ⟨u,r,.inr ⟨.inl hk,c,hc,hc'⟩⟩
     · rw[en6 (Ne.symm hj)] at e2;obtain ⟨u',r',q⟩:=hl j y v' e1 e2 e3;refine ⟨u',r',?_⟩
       rcases q with q|⟨k,c',e,z'⟩
       · exact .inl q
       · refine .inr ⟨k,c',e,z'.sameBut hs ?_⟩;rintro rfl;exact hj (ax6 hN e1 (I.ok.inj _ _ _ e hc▸hi))
   · by_cases hcc:c'=c
     · subst hcc;exact ⟨_,hc'⟩
     · obtain ⟨w2,z2⟩:=I.cell y c' e;exact ⟨w2,z2.sameBut hs hcc⟩
   · obtain ⟨e,n,ne,nf,d⟩:=I.pin p hp;refine ⟨(hs.2 p.1 ?_).trans e,n,ne,nf,d⟩;intro q;rw[q,hoc] at e;have q':oc=p.2:=Option.some.inj e;exact d w' (by rw[<-q'];exact hocd)
theorem al2 {M:Model}{A:Around}{E:Value->Shared->Prop}{i:Nat}{x:Str}{v:V}{u:Value}{Q:Unit->Shared->Prop}(I:i9 X pins σ H s)(hN:X.N.Nodup)(hi:X.N[i]? =some x)(hx:Loc X.env.scope x)(r:w4 v u)
   (h:∀s',i9 X pins (σ.set i (some v)) H s'->Q () s') (hf:X.fn x=true\/X.env.scope.names.lookup x=some .local:=by first|exact .inl rfl|exact .inr rfl|assumption):wpAny M A (storeName X.env x u) Q E s:=
 bk1 I hN hi hx r (fun s' I' _=>h s' I') hf
theorem i9.call' {s':Shared}{ch:List Addr}(I:i9 X pins σ H s)(ho:s'.os=s.os)(u:Un (C5 X.stack) ch H H' s.heap s'.heap)(hok:E4 X.prog X.w H' s'.heap)(hg:AllBare s'.gens)
   (hch:∀b∈ch,(b∈X.ex\/X.s₀.heap.objs.size<=b)/\b≠X.env.locals/\(∀x c,X.env.cells.lookup x=some c->c≠b)/\∀p∈X.pn++pins,p.1≠b):i9 X pins σ H' s':=by
 obtain ⟨h',g',d',t',o'⟩:=s';have e:o'=s.os:=ho;subst e;exact I.call (g':=g') (t':=t') (d':=d') u hok hg hch
end
abbrev XK:=Value->Option Addr->Hp->Prop
abbrev St:=List (Option V)
abbrev VK:=V->Hp->Prop
abbrev TE:=St->Hp->VK->Prop
abbrev TT:=St->Hp->(Bool->Hp->Prop)->Prop
abbrev TA:=St->Hp->(List V->Hp->Prop)->Prop
structure T9 where
 nx:St->Hp->Prop
 rt:VK
 bk:St->Hp->Prop:=fun _ _=>False
 ct:St->Hp->Prop:=fun _ _=>False
abbrev TS:=T9->St->Hp->Prop
def EP (X:Cx)(pins:List (Addr×Obj))(σ:St)(Q:VK)(u:Value)(s':Shared):Prop:=∃v H',i9 X pins σ H' s'/\w4 v u/\Q v H'
def TP (X:Cx)(pins:List (Addr×Obj))(σ:St)(Q:Bool->Hp->Prop)(b:Bool)(s':Shared):Prop:=∃H',i9 X pins σ H' s'/\Q b H'
def AP (X:Cx)(pins:List (Addr×Obj))(σ:St)(Q:List V->Hp->Prop)(us:List Value)(s':Shared):Prop:=∃vs H',i9 X pins σ H' s'/\o8 vs us/\Q vs H'
def SP (X:Cx)(pins:List (Addr×Obj))(D:T9)(f:Flow)(s':Shared):Prop:=
 match f with
 | .next=>∃σ' H',i9 X pins σ' H' s'/\D.nx σ' H'
 | .brk=>∃σ' H',i9 X pins σ' H' s'/\D.bk σ' H'
 | .cont=>∃σ' H',i9 X pins σ' H' s'/\D.ct σ' H'
 | .ret u=>∃v σ' H',i9 X pins σ' H' s'/\w4 v u/\D.rt v H'
def PE (X:Cx)(e:Expr)(t:TE):Prop:=
 ∀(pins:List (Addr×Obj)) (s:Shared) (σ:St) (H:Hp) (Q:VK),i9 X pins σ H s->t σ H Q->wpAny (model X.prog X.w) X.A (eval e X.env) (EP X pins σ Q) X.xe s
def PT (X:Cx)(e:Expr)(t:TT):Prop:=
 ∀(pins:List (Addr×Obj)) (s:Shared) (σ:St) (H:Hp) (Q:Bool->Hp->Prop),i9 X pins σ H s->t σ H Q->wpAny (model X.prog X.w) X.A (isTrue e X.env (eval e X.env)) (TP X pins σ Q) X.xe s
def PW (X:Cx)(e:Expr)(t:TT):Prop:=
 ∀(whole:Sem Value) (pins:List (Addr×Obj)) (s:Shared) (σ:St) (H:Hp) (Q:Bool->Hp->Prop),i9 X pins σ H s->t σ H Q->wpAny (model X.prog X.w) X.A (isTrue e X.env whole) (TP X pins σ Q) X.xe s
theorem PW.pt {X:Cx}{e:Expr}{t:TT}(h:PW X e t):PT X e t:=h _
def PA (X:Cx)(es:List Expr)(t:TA):Prop:=
 ∀(pos:Pos) (pins:List (Addr×Obj)) (s:Shared) (σ:St) (H:Hp) (Q:List V->Hp->Prop),i9 X pins σ H s->t σ H Q->wpAny (model X.prog X.w) X.A (spliced (backTo pos (starEach es X.env))) (AP X pins σ Q) X.xe s
def PS (X:Cx)(st:Stmt)(t:TS):Prop:=
 ∀(pins:List (Addr×Obj)) (s:Shared) (σ:St) (H:Hp) (D:T9),i9 X pins σ H s->t D σ H->wpAny (model X.prog X.w) X.A (exec st X.env) (SP X pins D) X.xe s
def PSs (X:Cx)(st:List Stmt)(t:TS):Prop:=
 ∀(pins:List (Addr×Obj)) (s:Shared) (σ:St) (H:Hp) (D:T9),i9 X pins σ H s->t D σ H->wpAny (model X.prog X.w) X.A (execs st X.env) (SP X pins D) X.xe s
theorem r6 {α:Type}{t:Sem α}{Q Q':α->Shared->Prop}{M:Model}{A:Around}{E:Value->Shared->Prop}{s:Shared}(h:wpAny M A t Q E s)(hQ:∀a s,Q a s->Q' a s):wpAny M A t Q' E s:=wpAny_mono h hQ fun _ _ x=>x
end L2
namespace L2
open PySem PySem.Spec PyProof.Rows
section
variable {X:Cx}
def dn2 (i:Nat):TE:=fun σ H Q=>∃v,σ[i]? =some (some v)/\Q v H
def tC (v:V):TE:=fun _ H Q=>Q v H
theorem dn3 {i:Nat}{x:Str}{pos:Pos}(hN:X.N[i]? =some x)(hv:Vis X.env.scope x)(hd:(x==("__debug__":Str))=false:=by decide)(hcd:(x==("__classdict__":Str))=false:=by decide):PE X (.Name x pos) (dn2 i):=by
 intro pins s σ H Q I h;obtain ⟨v,e,h⟩:=h;obtain ⟨m,hn,hl⟩:=I.loc;obtain ⟨u,r,l⟩:=hl i x v hN e hv;have fin:EP X pins σ Q u s:=⟨v,H,I,r,h⟩
 rcases l with ⟨hk,hm⟩|⟨hk,c,hc,hcell⟩
 · exact wpAny_Name (wpAny_loadName_local I.ok.kind hk hn hm fin) hd
 · rcases hk with hk|hk
   · exact wpAny_Name (wpAny_loadName_cell I.ok.kind hk hc hcell fin) hd
   · exact wpAny_Name (wpAny_loadName_free I.ok.kind hk hc hcell fin hcd) hd
theorem j4 {i j pos}:PE X (.Constant (.int i) j pos) (tC (.int i)):=fun _ _ _ H _ I h=>wpAny_Constant_int ⟨.int i,H,I.tok _,⟨_,rfl⟩,h⟩
theorem E5 {b j pos}:PE X (.Constant (.bool b) j pos) (tC (.bl b)):=fun _ _ _ H _ I h=>Constant_bool ⟨.bl b,H,I,rfl,h⟩
theorem O4 {j pos}:PE X (.Constant .none j pos) (tC .non):=fun _ _ _ H _ I h=>Constant_none ⟨.non,H,I,rfl,h⟩
theorem j7 {x j pos}:PE X (.Constant (.str x) j pos) (tC (.str x)):=fun _ _ _ H _ I h=>Calls.Constant_str ⟨.str x,H,I.tok _,⟨_,rfl⟩,h⟩
def Gl (X:Cx)(x:Str):Prop:=X.env.kindOf x=some .globalImplicit
theorem aj3 {E:Value->Shared->Prop}{pins:List (Addr×Obj)}{s:Shared}{σ:St}{H:Hp}{x:Str}{u:Value}{pos:Pos}{Q:Value->Shared->Prop}(I:i9 X pins σ H s)(hg:Gl X x)(hm:X.mg x=some u)(h:Q u s)
   (hd:(x==("__debug__":Str))=false:=by decide):wpAny (model X.prog X.w) X.A (eval (.Name x pos) X.env) Q E s:=
 Calls.Name_function_global I.ok.kind hg (Calls.loadGlobal_global (by rw[I.ok.glob];exact I.mod.glob.keeps I.bk) hm h) hd
theorem Q2 {E:Value->Shared->Prop}{pins:List (Addr×Obj)}{s:Shared}{σ:St}{H:Hp}{x:Str}{u:Value}{pos:Pos}{Q:Value->Shared->Prop}(I:i9 X pins σ H s)(hg:Gl X x)(hm:X.mg x=none)(hv:bootBuiltins x=some u)(h:Q u s)
   (hn:x≠"__name__":=by decide) (hd:(x==("__debug__":Str))=false:=by decide):wpAny (model X.prog X.w) X.A (eval (.Name x pos) X.env) Q E s:=by
 obtain ⟨mb,h1,h2⟩:=I.mod.blt;exact Calls.Name_function_global I.ok.kind hg (Calls.loadGlobal_builtin (by rw[I.ok.glob];exact I.mod.glob.keeps I.bk) hm (by rw[I.ok.blt];exact h1.keeps I.bk) ((h2 x hn).trans hv) h) hd
theorem B3 {x:Str}{v:V}{u:Value}{pos:Pos}(hg:Gl X x)(hm:X.mg x=some u)(r:w4 v u)(hd:(x==("__debug__":Str))=false:=by decide):PE X (.Name x pos) (tC v):=
 fun _ _ _ H _ I h=>aj3 I hg hm ⟨v,H,I,r,h⟩ hd
theorem aj4 {x:Str}{v:V}{u:Value}{pos:Pos}(hg:Gl X x)(hm:X.mg x=none)(hv:bootBuiltins x=some u)(r:w4 v u)(hn:x≠"__name__":=by decide)(hd:(x==("__debug__":Str))=false:=by decide):PE X (.Name x pos) (tC v):=
 fun _ _ _ H _ I h=>Q2 I hg hm hv ⟨v,H,I,r,h⟩ hn hd
variable {a b:Expr} {ta tb:TE} {pos:Pos}
def PC (X:Cx)(op:CmpOp)(a b:Expr)(t:TE):Prop:=
 ∀(pins:List (Addr×Obj)) (s:Shared) (σ:St) (H:Hp) (Q:VK),i9 X pins σ H s->t σ H Q->
  wpAny (model X.prog X.w) X.A (eval a X.env) (fun v s₁=>wpAny (model X.prog X.w) X.A (eval b X.env) (fun u s₂=>wpAny (model X.prog X.w) X.A (compareOp op v u) (EP X pins σ Q) X.xe s₂) X.xe s₁) X.xe s
def tB (t:TE):TT:=fun σ H Q=>t σ H fun x H1=>∃c,x= .bl c/\Q c H1
theorem bq7 {op:CmpOp}{t:TE}(h:PC X op a b t)(h1:behindInMarks op b=false:=by first|exact nobehind _ (by decide) (by decide)|rfl):PT X (.Compare a [op] [b] pos) (tB t):=by
 intro pins s σ H Q I hw;refine wpAny_isTrue_Compare1 (r6 (h pins s σ H _ I hw) fun v s1 h1=>r6 h1 fun u s2 h2=>r6 h2 fun c s3 ⟨x,H1,I1,r1,q1⟩=> ?_) h1;obtain ⟨d,rfl,q⟩:=q1;cases r1;exact wpAny_truthy_bool ⟨H1,I1,q⟩
theorem G8 {e:Expr}{t:TE}(h:PE X e t)(he:∀whole,isTrue e X.env whole=(do let v <-whole;standAt e.pos;holding [v] (truthy v)):=by intro _;rfl):PT X e (tB t):=by
 intro pins s σ H Q I hw;refine isTrue_plain (r6 (h pins s σ H _ I hw) fun v s1 ⟨x,H1,I1,r1,q1⟩=> ?_) (he _);obtain ⟨d,rfl,q⟩:=q1;cases r1;exact wpAny_truthy_bool ⟨H1,I1,q⟩
variable {tA tB':TT} {rest:List Expr}
def dx4 (t u:TT):TT:=fun σ H Q=>t σ H fun c H1=>if c=true then u σ H1 Q else Q false H1
def tOr (t u:TT):TT:=fun σ H Q=>t σ H fun c H1=>if c=true then Q true H1 else u σ H1 Q
def dx5 (t:TT):TT:=fun σ H Q=>t σ H fun c H1=>Q (!c) H1
theorem cd9 (ha:PT X a tA):PW X (.BoolOp .And [a] pos) tA:=by
 intro wh pins s σ H Q I h;refine isTrue_and (r6 (ha pins s σ H Q I h) fun c s1 e=> ?_)
 cases c with
 |true=>exact isTrue_and_nil e
 |false=>exact e
theorem Q3 (ha:PT X a tA):PW X (.BoolOp .Or [a] pos) tA:=by
 intro wh pins s σ H Q I h;refine isTrue_or (r6 (ha pins s σ H Q I h) fun c s1 e=> ?_)
 cases c with
 |false=>exact isTrue_or_nil e
 |true=>exact e
theorem cn7 (ha:PT X a tA)(hb:PW X (.BoolOp .And (b::rest) pos) tB'):PW X (.BoolOp .And (a::b::rest) pos) (dx4 tA tB'):=by
 intro wh pins s σ H Q I h;refine isTrue_and (r6 (ha pins s σ H _ I h) fun c s1 ⟨H1,I1,q1⟩=> ?_)
 cases c with
 |true=>exact hb wh pins s1 σ H1 Q I1 q1
 |false=>exact ⟨H1,I1,q1⟩
theorem R5 (ha:PT X a tA)(hb:PW X (.BoolOp .Or (b::rest) pos) tB'):PW X (.BoolOp .Or (a::b::rest) pos) (tOr tA tB'):=by
 intro wh pins s σ H Q I h;refine isTrue_or (r6 (ha pins s σ H _ I h) fun c s1 ⟨H1,I1,q1⟩=> ?_)
 cases c with
 |true=>exact ⟨H1,I1,q1⟩
 |false=>exact hb wh pins s1 σ H1 Q I1 q1
theorem K5 (ha:PT X a tA):PT X (.UnaryOp .Not a pos) (dx5 tA):=by
 intro pins s σ H Q I h;exact isTrue_not (ha pins s σ H (fun c H1=>Q (!c) H1) I h)
def ds9 (ta tb:TE):TE:=fun σ H Q=>ta σ H fun x H1=>∃c,x= .bl c/\if c=true then tb σ H1 Q else Q (.bl false) H1
def dx6 (ta tb:TE):TE:=fun σ H Q=>ta σ H fun x H1=>∃c,x= .bl c/\if c=true then Q (.bl true) H1 else tb σ H1 Q
def dt0 (ta:TE):TE:=fun σ H Q=>ta σ H fun x H1=>∃c,x= .bl c/\Q (.bl (!c)) H1
theorem aq7 {op}{t:TE}(h:PE X a t):PE X (.BoolOp op [a] pos) t:=fun pins s σ H Q I hw=>BoolOp_one (h pins s σ H Q I hw)
theorem bb0 (ha:PE X a ta)(hb:PE X (.BoolOp .And (b::rest) pos) tb):PE X (.BoolOp .And (a::b::rest) pos) (ds9 ta tb):=by
 intro pins s σ H Q I h;refine BoolOp_and (r6 (ha pins s σ H _ I h) fun v s1 ⟨x,H1,I1,r1,q1⟩=> ?_);obtain ⟨c,rfl,q1⟩:=q1;cases r1;refine wpAny_truthy_bool ?_
 cases c with
 |true=>exact hb pins s1 σ H1 Q I1 q1
 |false=>exact ⟨.bl false,H1,I1,rfl,q1⟩
theorem dt1 (ha:PE X a ta)(hb:PE X (.BoolOp .Or (b::rest) pos) tb):PE X (.BoolOp .Or (a::b::rest) pos) (dx6 ta tb):=by
 intro pins s σ H Q I h;refine BoolOp_or (r6 (ha pins s σ H _ I h) fun v s1 ⟨x,H1,I1,r1,q1⟩=> ?_);obtain ⟨c,rfl,q1⟩:=q1;cases r1;refine wpAny_truthy_bool ?_
 cases c with
 |false=>exact hb pins s1 σ H1 Q I1 q1
 |true=>exact ⟨.bl true,H1,I1,rfl,q1⟩
theorem cn8 (ha:PE X a ta):PE X (.UnaryOp .Not a pos) (dt0 ta):=by
 intro pins s σ H Q I h;refine UnaryOp_ (r6 (ha pins s σ H _ I h) fun v s1 ⟨x,H1,I1,r1,q1⟩=> ?_);obtain ⟨c,rfl,q1⟩:=q1;cases r1;exact not_of (wpAny_truthy_bool ⟨.bl (!c),H1,I1,rfl,q1⟩)
def tIf (t:TT)(ta tb:TE):TE:=fun σ H Q=>t σ H fun c H1=>if c=true then ta σ H1 Q else tb σ H1 Q
theorem cy4 {c:Expr}(hc:PT X c tA)(ha:PE X a ta)(hb:PE X b tb):PE X (.IfExp c a b pos) (tIf tA ta tb):=by
 intro pins s σ H Q I h;refine wpAny_IfExp (r6 (hc pins s σ H _ I h) fun d s1 ⟨H1,I1,q1⟩=> ?_)
 cases d with
 |true=>exact ha pins s1 σ H1 Q I1 q1
 |false=>exact hb pins s1 σ H1 Q I1 q1
end
end L2
namespace L2
open PySem PySem.Spec PyProof.Rows
def i5 (K:PySem.W.Frag)(H:Hp)(a:Addr)(xs:List V):Prop:=
 Rd H a (.lst xs)\/
   ∃(o:Obj) (its:Array Value) (n:Nat),K.lookup a=some o/\o.cls= .type "list"/\o.dict=none/\o.data= .seq its n/\its.size<=sizeLine/\o8 xs its.toList
def M6 (K:PySem.W.Frag)(H:Hp)(a:Addr)(xs:List V):Prop:=
 Rd H a (.tup xs)\/
   ∃(o:Obj) (its:Array Value) (n:Nat),K.lookup a=some o/\o.cls= .type "tuple"/\o.data= .seq its n/\its.size<=sizeLine/\o8 xs its.toList
def dx7:Value->Option V
 | .none=>some .non
 | .bool b=>some (.bl b)
 | .int i _=>some (.int i)
 | .str x _=>some (.str x)
 | .bytes b _=>some (.byt b)
 | .float b _=>some (.flt b)
 | .ref a=>some (.ref a)
 | .type n=>some (.ty n)
 |_=>none
theorem w4.abs {x:V}{u:Value}(r:w4 x u):dx7 u=some x:=by
 cases x with
 |non=>cases r;rfl
 |bl _=>cases r;rfl
 |int _=>obtain ⟨t,rfl⟩:=r;rfl
 |str _=>obtain ⟨t,rfl⟩:=r;rfl
 |byt _=>obtain ⟨t,rfl⟩:=r;rfl
 |flt _=>obtain ⟨t,rfl⟩:=r;rfl
 |ref _=>cases r;rfl
 |ty _=>cases r;rfl
theorem w4.inj {x y:V}{u:Value}(r:w4 x u)(q:w4 y u):x=y:=Option.some.inj (r.abs.symm.trans q.abs)
theorem o8.inj:∀{xs ys:List V} {us:List Value},o8 xs us->o8 ys us->xs=ys
 |_,_,_,.nil,.nil=>rfl
 |_,_,_,.cons r t,.cons r' t'=>by rw[r.inj r',o8.inj t t']
section
variable {X:Cx} {pins:List (Addr×Obj)} {σ:St} {H:Hp} {s:Shared} {a:Addr} {xs ys:List V}
theorem i5.of {K:PySem.W.Frag}(h:H a=some (.lst xs)):i5 K H a xs:= .inl (.inl h)
theorem M6.of {K:PySem.W.Frag}(h:H a=some (.tup xs)):M6 K H a xs:= .inl (.inl h)
theorem i9.list (I:i9 X pins σ H s)(h:i5 X.K H a xs):∃its:List Value,o8 xs its/\PlainL s.heap a its.toArray/\xs.length<=sizeLine:=by
 rcases h with h|⟨o,its,n,hk,hc,hd,hs,hz,r⟩
 · obtain ⟨z,its,n,r,e⟩:=h.ok I.hok;exact ⟨its,r,⟨_,n,e,rfl,rfl,rfl⟩,z⟩
 · refine ⟨its.toList,r,⟨o,n,I.kIn a o hk,hc,hd,by simpa using hs⟩,?_⟩;have e:=r.length;simp only[ef5] at e;omega
theorem i9.tuple (I:i9 X pins σ H s)(h:M6 X.K H a xs):∃its:List Value,o8 xs its/\IsTup s.heap a its.toArray/\xs.length<=sizeLine:=by
 rcases h with h|⟨o,its,n,hk,hc,hs,hz,r⟩
 · obtain ⟨z,its,r,p⟩:=h.ok I.hok;exact ⟨its,r,p,z⟩
 · refine ⟨its.toList,r,⟨o,I.kIn a o hk,hc,n,by simpa using hs⟩,?_⟩;have e:=r.length;simp only[ef5] at e;omega
theorem i9.list_inj (I:i9 X pins σ H s)(h:i5 X.K H a xs)(h':i5 X.K H a ys):xs=ys:=by
 obtain ⟨its,r,⟨o,n,e,_,_,d⟩,_⟩:=I.list h;obtain ⟨its',r',⟨o',n',e',_,_,d'⟩,_⟩:=I.list h';rw[e] at e';cases e';rw[d] at d'
 injection d' with d1 _
 have:its=its':=by simpa using congrArg Array.toList d1
 subst this;exact r.inj r'
end
abbrev Cx.wish (X:Cx)(E:Value->Shared->Prop):Cx:={X with xe:=E}
abbrev Cx.nox (X:Cx):Cx:=X.wish fun _ _=>False
theorem Cx.Ok.wish {X:Cx}(ok:X.Ok)(E:Value->Shared->Prop):(X.wish E).Ok:=
 ⟨ok.mod,ok.kind,ok.glob,ok.blt,ok.above,ok.inj,ok.has,ok.cab,ok.hd,ok.frames,ok.stk,ok.exf,ok.bs,ok.bsz,ok.noex,ok.exfs,ok.funs,ok.frf⟩
theorem Cx.Ok.unwish {X:Cx}{E:Value->Shared->Prop}(ok:(X.wish E).Ok):X.Ok:=
 ⟨ok.mod,ok.kind,ok.glob,ok.blt,ok.above,ok.inj,ok.has,ok.cab,ok.hd,ok.frames,ok.stk,ok.exf,ok.bs,ok.bsz,ok.noex,ok.exfs,ok.funs,ok.frf⟩
section
variable {X:Cx} {pins:List (Addr×Obj)} {σ:St} {H:Hp} {s:Shared} {E:Value->Shared->Prop}
theorem i9.wish (I:i9 X pins σ H s)(E:Value->Shared->Prop):i9 (X.wish E) pins σ H s:=⟨I.ok.wish E,I.os,I.bare,I.base,I.loc,I.cell,I.free,I.freeC,I.pin,I.hok,I.len⟩
theorem i9.unwish (I:i9 (X.wish E) pins σ H s):i9 X pins σ H s:=⟨I.ok.unwish,I.os,I.bare,I.base,I.loc,I.cell,I.free,I.freeC,I.pin,I.hok,I.len⟩
theorem SP.unwish {D:T9}{f:Flow}{s':Shared}(h:SP (X.wish E) pins D f s'):SP X pins D f s':=by
 cases f with
 |next=>obtain ⟨σ',H',I,q⟩:=h;exact ⟨σ',H',I.unwish,q⟩
 |brk=>obtain ⟨σ',H',I,q⟩:=h;exact ⟨σ',H',I.unwish,q⟩
 |cont=>obtain ⟨σ',H',I,q⟩:=h;exact ⟨σ',H',I.unwish,q⟩
 |ret u=>obtain ⟨v,σ',H',I,r,q⟩:=h;exact ⟨v,σ',H',I.unwish,r,q⟩
theorem PSs.nox {st:List Stmt}{t:TS}(h:PSs X.nox st t):PSs X st t:=fun pins s σ H D I hw=>
 wpAny_mono (h pins s σ H D (I.wish _) hw) (fun _ _ q=>q.unwish) fun _ _ z=>False.elim z
end
section
variable {X:Cx} {st:Stmt} {rest:List Stmt} {t u:TS} {e:Expr} {te:TE} {pos:Pos}
def dt2:TS:=fun D σ H=>D.nx σ H
def aq8 (t u:TS):TS:=fun D σ H=>t {D with nx:=u D} σ H
theorem k7:PSs X [] dt2:=fun _ _ σ H _ I h=>wpAny_execs_nil ⟨σ,H,I,h⟩
theorem c7 (h1:PS X st t)(h2:PSs X rest u):PSs X (st::rest) (aq8 t u):=by
 intro pins s σ H D I h;refine wpAny_execs_cons (r6 (h1 pins s σ H {D with nx:=u D} I h) fun f s1 q=> ?_)
 cases f with
 |next=>
  obtain ⟨σ',H',I',q⟩:=q;exact h2 pins s1 σ' H' D I' q
 |ret v=>exact q
 |brk=>exact q
 |cont=>exact q
theorem c8 (h1:PS X st t):PSs X [st] t:=by
 intro pins s σ H D I h;refine wpAny_execs_cons (r6 (h1 pins s σ H D I h) fun f s1 q=> ?_)
 cases f with
 |next=>exact wpAny_execs_nil q
 |ret v=>exact q
 |brk=>exact q
 |cont=>exact q
theorem i9.quiet {pins:List (Addr×Obj)}{σ:St}{H:Hp}{s:Shared}(I:i9 X pins σ H s):interactive X.env=false:=by simp [interactive,I.ok.kind]
def dt3 (te:TE):TS:=fun D σ H=>te σ H fun _ H1=>D.nx σ H1
theorem x8 (he:PE X e te)(hs:swapsWith e none pos.line X.env=pure false:=by rfl):PS X (.Expr e pos) (dt3 te):=by
 intro pins s σ H D I h;exact wpAny_Expr_any (r6 (he pins s σ H _ I h) fun v s1 ⟨x,H1,I1,r1,q1⟩=>⟨σ,H1,I1,q1⟩) I.quiet hs
def dx8 (te:TE):TS:=fun D σ H=>te σ H D.rt
theorem j5 (he:PE X e te):PS X (.Return (some e) pos) (dx8 te):=by
 intro pins s σ H D I h;exact wpAny_Return_some (r6 (he pins s σ H _ I h) fun v s1 ⟨x,H1,I1,r1,q1⟩=>⟨x,σ,H1,I1,r1,q1⟩)
def cy5 (c:TT)(t u:TS):TS:=fun D σ H=>c σ H fun b H1=>if b=true then t D σ H1 else u D σ H1
theorem o6 {c:Expr}{a b:List Stmt}{tc:TT}(hc:PT X c tc)(ha:PSs X a t)(hb:PSs X b u):PS X (.If c a b pos) (cy5 tc t u):=by
 intro pins s σ H D I h;refine wpAny_If (r6 (hc pins s σ H _ I h) fun d s1 ⟨H1,I1,q1⟩=> ?_)
 cases d with
 |true=>exact ha pins s1 σ H1 D I1 q1
 |false=>exact hb pins s1 σ H1 D I1 q1
def cn9:TS:=fun _ _ _=>False
theorem J6:PS X st cn9:=fun _ _ _ _ _ _ h=>h.elim
theorem ag5 {sts:List Stmt}:PSs X sts cn9:=fun _ _ _ _ _ _ h=>h.elim
end
abbrev TG:=V->St->Hp->(St->Hp->Prop)->Prop
abbrev TGs:=List V->St->Hp->(St->Hp->Prop)->Prop
def PG (X:Cx)(target:Expr)(t:TG):Prop:=
 ∀(pins:List (Addr×Obj)) (s:Shared) (σ:St) (H:Hp) (v:V) (u:Value) (Q:St->Hp->Prop),i9 X pins σ H s->w4 v u->t v σ H Q->
  wpAny (model X.prog X.w) X.A (assign target X.env u) (fun _ s'=>∃σ' H',i9 X pins σ' H' s'/\Q σ' H') X.xe s
def PGs (X:Cx)(ts:List Expr)(t:TGs):Prop:=
 ∀(pins:List (Addr×Obj)) (s:Shared) (σ:St) (H:Hp) (vs:List V) (us:List Value) (Q:St->Hp->Prop),i9 X pins σ H s->o8 vs us->t vs σ H Q->
  wpAny (model X.prog X.w) X.A (assignInOrder ((assignEach ts X.env).map (·.2)) us) (fun _ s'=>∃σ' H',i9 X pins σ' H' s'/\Q σ' H') X.xe s
abbrev cy6:=V->V->V->Hp->(Hp->Prop)->Prop
def dn4 (X:Cx)(t:cy6):Prop:=
 ∀(pins:List (Addr×Obj)) (s:Shared) (σ:St) (H:Hp) (o i v:V) (ov iv u:Value) (Q:Hp->Prop),i9 X pins σ H s->w4 o ov->w4 i iv->w4 v u->t o i v H Q->
  wpAny (model X.prog X.w) X.A (setItem ov iv u) (fun _ s'=>∃H',i9 X pins σ H' s'/\Q H') X.xe s
section
variable {X:Cx} {pos:Pos}
def bb1 (i:Nat):TG:=fun v σ H Q=>Q (σ.set i (some v)) H
theorem o7 {i:Nat}{x:Str}(hN:X.N.Nodup)(hi:X.N[i]? =some x)(hx:Loc X.env.scope x)(hf:X.fn x=true\/X.env.scope.names.lookup x=some .local:=by first|exact .inl rfl|exact .inr rfl|assumption):PG X (.Name x pos) (bb1 i):=by
 intro pins s σ H v u Q I r h;exact wpAny_assign_Name (al2 I hN hi hx r (fun s' I'=>⟨_,H,I',h⟩) hf)
def dx9:TGs:=fun vs σ H Q=>vs=[]/\Q σ H
def dt4 (t:TG)(u:TGs):TGs:=fun vs σ H Q=>∃v r,vs=v::r/\t v σ H fun σ' H'=>u r σ' H' Q
theorem Y4:PGs X [] dx9:=by
 intro pins s σ H vs us Q I r h;obtain ⟨e,h⟩:=h;subst e;cases r;exact assignInOrder_nil ⟨σ,H,I,h⟩
theorem E6 {e:Expr}{es:List Expr}{t:TG}{u:TGs}(h1:PG X e t)(h2:PGs X es u)
   (hs:(assignEach (e::es) X.env).map (·.2)=assign e X.env::(assignEach es X.env).map (·.2):=by rfl):PGs X (e::es) (dt4 t u):=by
 intro pins s σ H vs us Q I r h;obtain ⟨v,vr,e1,h⟩:=h;subst e1
 cases r with
 |cons r rr=>
  rw[hs];refine assignInOrder_cons (r6 (h1 pins s σ H _ _ _ I r h) fun _ s1 ⟨σ1,H1,I1,q1⟩=> ?_);exact h2 pins s1 σ1 H1 _ _ Q I1 rr q1
def dn5 (K:PySem.W.Frag)(n:Nat)(t:TGs):TG:=fun v σ H Q=>∃a xs,v= .ref a/\M6 K H a xs/\xs.length=n/\t xs σ H Q
theorem ad1 {es:List Expr}{k:Nat}{t:TGs}{n:Nat}(hc:X.calm=true)(h:PGs X es t)
   (hn:(assignEach es X.env).length=n:=by rfl) (hst:(assignEach es X.env).findIdx? (·.1)=none:=by rfl):PG X (.Tuple es k pos) (dn5 X.K n t):=by
 intro pins s σ H v u Q I r hw;obtain ⟨a,xs,e1,hq,hl,hw⟩:=hw;subst e1;cases r;obtain ⟨its,rv,ht,hz⟩:=I.tuple hq
 refine assign_Tuple_tuple (I.ok.hd hc) ht (by simp [hn,<-hl,rv.length]) hst fun h' hx=> ?_
 have I1:i9 X pins σ H {s with heap:=h'}:=I.kept (t':=s.toks) fun b o e=>hx b o (ed2 (Heap.lt_size e)) e
 exact h pins _ σ H xs _ Q I1 (by simpa using rv) hw
def dy0 (to ti:TE)(t:cy6):TG:=fun v σ H Q=>to σ H fun o H1=>ti σ H1 fun i H2=>t o i v H2 fun H3=>Q σ H3
theorem ad2 {o i:Expr}{to ti:TE}{t:cy6}(ho:PE X o to)(hi:PE X i ti)(hs:dn4 X t)
   (ha:∀v,assign (.Subscript o i pos) X.env v=(do
     let ov <-holding [v] (eval o X.env)
     let iv <-holding [v,ov] (eval i X.env)
     standAt pos
     holding [v,ov,iv] (setItem ov iv v)
     release [v,ov,iv] []):=by intro _;rfl):PG X (.Subscript o i pos) (dy0 to ti t):=by
 intro pins s σ H v u Q I r h;rw[ha];refine wpAny_bind (wpAny_holding (r6 (ho pins s σ H _ I h) fun ov s1 ⟨x,H1,I1,r1,q1⟩=> ?_));refine wpAny_bind (wpAny_holding (r6 (hi pins s1 σ H1 _ I1 q1) fun iv s2 ⟨y,H2,I2,r2,q2⟩=> ?_));refine wpAny_bind (wpAny_standAt (wpAny_bind (wpAny_holding (r6 (hs pins s2 σ H2 x y v ov iv u _ I2 r1 r2 r q2) fun _ s3 ⟨H3,I3,q3⟩=> ?_))));exact wpAny_release ⟨σ,H3,I3,q3⟩
def ci6 (te:TE)(g:TG):TS:=fun D σ H=>te σ H fun x H1=>g x σ H1 D.nx
theorem ad3 {tg e:Expr}{te:TE}{g:TG}(he:PE X e te)(hg:PG X tg g)(hs:swapsWithSole [tg] e pos.line X.env=pure false:=by rfl)(hw:swappedStores [tg] e X.env=pure none:=by rfl)
   (h1:(assignEach [tg] X.env).map (·.2)=[assign tg X.env]:=by rfl):PS X (.Assign [tg] e pos) (ci6 te g):=by
 intro pins s σ H D I h;refine wpAny_Assign_stores (r6 (he pins s σ H _ I h) fun v s1 ⟨x,H1,I1,r1,q1⟩=> ?_) hs hw;rw[h1]
 exact r6 (hg pins s1 σ H1 x v _ I1 r1 q1) fun _ s2 q=>q
theorem m6 {i:Nat}{x:Str}{e:Expr}{te:TE}{pos':Pos}(hN:X.N.Nodup)(hi:X.N[i]? =some x)(hx:Loc X.env.scope x)(he:PE X e te)(hs:swapsWith e (some (.Name x pos')) pos.line X.env=pure false:=by rfl)(hf:X.fn x=true\/X.env.scope.names.lookup x=some .local:=by first|exact .inl rfl|exact .inr rfl|assumption):
   PS X (.Assign [.Name x pos'] e pos) (ci6 te (bb1 i)):=by
 intro pins s σ H D I h;refine wpAny_Assign_Name (r6 (he pins s σ H _ I h) fun v s1 ⟨y,H1,I1,r1,q1⟩=> ?_) hs;exact al2 I1 hN hi hx r1 (fun s2 I2=>⟨_,H1,I2,q1⟩) hf
end
section
variable {X:Cx} {pos:Pos}
def co1 (c:TT)(tb:TS):TS:=fun D σ H=>∃W:Nat->St->Hp->Prop,(∃m,W m σ H)/\∀m σ H,W m σ H->
 c σ H fun b H1=>if b=true then ∃N:St->Hp->Prop,(∀σ' H',N σ' H'->∃m',m' < m/\W m' σ' H')/\tb {D with nx:=N,ct:=N,bk:=D.nx} σ H1 else D.nx σ H1
theorem V0 {c:Expr}{body:List Stmt}{tc:TT}{tb:TS}(hp:PassesOwn (model X.prog X.w) X.A X.env X.xe)(hc:PT X c tc)(hb:PSs X body tb):PS X (.While c body [] pos) (co1 tc tb):=by
 intro pins s σ H D I h;obtain ⟨W,⟨m0,w0⟩,turn⟩:=h;refine wpAny_While (codeAny_whileLoop (fun n s'=>∃σ' H',i9 X pins σ' H' s'/\W n σ' H') ?_ m0 ⟨σ,H,I,w0⟩);rintro n s1 ⟨σ1,H1,I1,w1⟩;refine wpAny_passesOwn hp (r6 (hc pins s1 σ1 H1 _ I1 (turn n σ1 H1 w1)) fun b s2 ⟨H2,I2,q2⟩=> ?_)
 cases b with
 |true=>
  obtain ⟨N,hN,q2⟩:=q2;rw[if_pos rfl];refine wpAny_passesOwn hp (r6 (hb pins s2 σ1 H2 _ I2 q2) fun f s3 q3=> ?_)
  cases f with
  |next=>
   obtain ⟨σ3,H3,I3,n3⟩:=q3;obtain ⟨m',hm,w3⟩:=hN σ3 H3 n3;exact ⟨m',hm,σ3,H3,I3,w3⟩
  |cont=>
   obtain ⟨σ3,H3,I3,n3⟩:=q3;obtain ⟨m',hm,w3⟩:=hN σ3 H3 n3;exact ⟨m',hm,σ3,H3,I3,w3⟩
  |brk=>exact q3
  |ret v=>exact q3
 |false=>
  rw[if_neg ed9];exact wpAny_execs_nil ⟨σ1,H2,I2,q2⟩
end
structure It where
 go:Nat->Hp->Prop
 yld:Nat->Hp->V->Hp->Prop
 stop:Nat->Hp->Prop
def al3 (X:Cx)(pins:List (Addr×Obj))(H:Hp)(b:Addr):Prop:=
 H b=none/\b≠X.env.locals/\b∉X.fs/\(b∈X.ex\/X.s₀.heap.objs.size<=b)/\(∀x c,X.env.cells.lookup x=some c->c≠b)/\∀p∈X.pn++pins,p.1≠b
theorem i9.fpOk {X:Cx}{pins:List (Addr×Obj)}{σ:St}{H H':Hp}{s:Shared}{b:Addr}(I:i9 X pins σ H s)(hb:s.heap.objs.size<=b)(hn:H' b=none):al3 X pins H' b:=by
 refine ⟨hn,eq8 (ee9 I.lt hb),I.nofs hb,.inr (ee0 I.sz hb),fun x c e z=> ?_,fun p hp z=> ?_⟩
 · obtain ⟨v,q⟩:=I.cell x c e;exact absurd (ee9 q.lt (by rw[z];exact hb)) (eh8 _)
 · exact absurd (ee9 (Heap.lt_size (I.pin p hp).1) (by rw[z];exact hb)) (eh8 _)
structure al4 (P:Program)(w:World)(K:PySem.W.Frag)(tg:Expr)(J:It)(fp:List Addr)(it:Addr)(tn:Nat->Heap->Prop):Prop where
 mem:it∈fp
 obj:∀i h,tn i h->∀b∈fp,∃o,h.get? b=some o/\∀v,o.data≠.cell v
 keep:∀i h h',tn i h->(∀b∈fp,∀o,h.get? b=some o->h'.get? b=some o)->tn i h'
 item:∀(X:Cx),X.prog=P->X.w=w->X.K=K->X.calm=true->∀(i:Nat) (pins:List (Addr×Obj)) (s:Shared) (σ:St) (H:Hp) (E:Value->Shared->Prop),i9 X pins σ H s->(∀b∈fp,al3 X pins H b)->tn i s.heap->J.go i H->
   wpAny (model P w) X.A (pyNext (.ref it)) (fun r s1=>∃u,r=some u/\
     wpAny (model P w) X.A (letOwnedTupleGo tg (.ref it) u) (fun _ s2=>∃x H',i9 X pins σ H' s2/\w4 x u/\J.yld i H x H'/\tn (i+1) s2.heap/\∀b∈fp,H' b=none) E s1) E s
 done:∀(X:Cx),X.prog=P->X.w=w->X.K=K->X.calm=true->∀(i:Nat) (pins:List (Addr×Obj)) (s:Shared) (σ:St) (H:Hp) (E:Value->Shared->Prop),i9 X pins σ H s->(∀b∈fp,al3 X pins H b)->tn i s.heap->J.stop i H->
   wpAny (model P w) X.A (pyNext (.ref it)) (fun r s1=>r=none/\i9 X pins σ H s1) E s
 self:∀(A:Around) (i:Nat) (s:Shared) (Q:Value->Shared->Prop) (E:Value->Shared->Prop),tn i s.heap->Q (.ref it) s->wpAny (model P w) A (pyIter (.ref it)) Q E s
abbrev TI:=St->Hp->(It->Hp->Prop)->Prop
def PIE (X:Cx)(pins:List (Addr×Obj))(σ:St)(tg:Expr)(R:It->Hp->Prop)(itv:Value)(s2:Shared):Prop:=
 ∃(it:Addr) (fp:List Addr) (tn:Nat->Heap->Prop) (J:It) (H':Hp),itv= .ref it/\i9 X pins σ H' s2/\al4 X.prog X.w X.K tg J fp it tn/\tn 0 s2.heap/\(∀b∈fp,al3 X pins H' b)/\R J H'
def PI (X:Cx)(tg iter:Expr)(wi:TI):Prop:=
 ∀(pins:List (Addr×Obj)) (s:Shared) (σ:St) (H:Hp) (R:It->Hp->Prop),i9 X pins σ H s->wi σ H R->
  wpAny (model X.prog X.w) X.A (eval iter X.env) (fun v s1=>wpAny (model X.prog X.w) X.A (pyIter v) (PIE X pins σ tg R) X.xe s1) X.xe s
theorem bb2 {M:Model}{A:Around}{E:Value->Shared->Prop}{s:Shared}{tg:Expr}{it:Addr}{u:Value}{o:Obj}{n:String}{vs:Array Value}{Q:Unit->Shared->Prop}(ho:s.heap.get? it=some o)(hc:o.cls= .type n)(hd:o.data= .fields vs)
   (hn:["enumerate","zip","dict_itemiterator","dict_reverseitemiterator","odict_iterator","itertools.zip_longest","itertools.pairwise"].contains n=false) (hQ:Q () s):wpAny M A (letOwnedTupleGo tg (.ref it) u) Q E s:=by
 unfold letOwnedTupleGo
 cases tg<;>first
   |exact wpAny_pure hQ
   |(cases u<;>first
       |exact wpAny_pure hQ
       |(refine wpAny_bind (wpAny_load ho ?_)
         rw[hc,hd];show wpAny M A (if (["enumerate","zip","dict_itemiterator","dict_reverseitemiterator","odict_iterator","itertools.zip_longest","itertools.pairwise"].contains n&&vs[0]? ==some (rawInt _))=true then _ else _) Q E s;rw[if_neg (by intro h;rw[hn,Bool.false_and] at h;cases h)]
         exact wpAny_pure hQ))
def Itl (K:PySem.W.Frag)(a:Addr):It:=
 ⟨fun i H=>∃xs x,i5 K H a xs/\xs[i]? =some x,fun i H x H'=>H'=H/\∀xs,i5 K H a xs->xs[i]? =some x,fun i H=>∃xs,i5 K H a xs/\xs.length<=i⟩
def Itr (lo:Int)(n:Nat):It:=⟨fun i _=>i < n,fun i H x H'=>H'=H/\x= .int (lo+i),fun i _=>n<=i⟩
theorem co2 {P:Program}{w:World}{K:PySem.W.Frag}{tg:Expr}(a it:Addr):al4 P w K tg (Itl K a) [it] it (fun i h=>h.IsListIter it a i) where
 mem:=by simp
 obj:=fun i h st b hb=>by
   have e:b=it:=by simpa using hb
   subst e;obtain ⟨o,e,c,d⟩:=st;exact ⟨o,e,fun v z=>by rw[d] at z;cases z⟩
 keep:=fun i h h' st k=>st.at fun o e=>k it (by simp) o e
 item:=by
   intro X hP hw hK hc i pins s σ H E I hf st hg;subst hP hw hK;obtain ⟨xs,x,hq,hx⟩:=hg;obtain ⟨its,rv,p,hz⟩:=I.list hq;obtain ⟨u,hu,ru⟩:=rv.get hx;obtain ⟨f0,f1,f2,f3,f4,f5⟩:=hf it (by simp)
   refine wpAny_pyNext_list_item st p.isList (x:=u) (by simpa using hu) fun h' st' sb=> ?_
   have I1:i9 X pins σ H {s with heap:=h'}:=I.turned (t':=s.toks) (fun b o hb e=>(sb.2 b hb).trans e) f0 f1 f3 f4 f5;obtain ⟨o,e,c,d⟩:=id st';exact ⟨u,rfl,bb2 (s:={s with heap:=h'}) e c d (by decide) ⟨x,H,I1,ru,⟨rfl,fun ys hy=>by rw[I.list_inj hy hq];exact hx⟩,st',fun b hb=>(hf b hb).1⟩⟩
 done:=by
   intro X hP hw hK hc i pins s σ H E I hf st hg;subst hP hw hK;obtain ⟨xs,hq,hx⟩:=hg;obtain ⟨its,rv,p,hz⟩:=I.list hq;obtain ⟨f0,f1,f2,f3,f4,f5⟩:=hf it (by simp);have hl:=rv.length
   exact wpAny_pyNext_list_end (I.ok.hd hc) st p.isList (by simp;omega) fun h' eb=>⟨rfl,I.turned (t':=s.toks) (fun b o hb e=>eb b o hb e) f0 f1 f3 f4 f5⟩
 self:=fun _ _ _ _ _ st h=>wpAny_pyIter_listiter st h
theorem ci7 {P:Program}{w:World}{K:PySem.W.Frag}{tg:Expr}(it:Addr)(lo:Int)(n:Nat):al4 P w K tg (Itr lo n) [it] it (fun i h=>IsRangeIter h it (lo+(i:Nat)*1) ((n:Int) - (i:Nat)) 1) where
 mem:=by simp
 obj:=fun i h st b hb=>by
   have e:b=it:=by simpa using hb
   subst e
   exact ⟨_,st,fun v z=>by
     have z':Data.fields _=Data.cell v:=z
     cases z'⟩
 keep:=fun i h h' st k=>k it (by simp) _ st
 item:=by
   intro X hP hw hK hc i pins s σ H E I hf st hg;subst hP hw hK;obtain ⟨f0,f1,f2,f3,f4,f5⟩:=hf it (by simp);have W:=Walks.range (prog:=X.prog) (w:=X.w) (I.ok.hd hc) it lo 1 n
   refine W.item i s _ _ hg st fun v h' tk hv st' kk=> ?_
   obtain ⟨t,rfl⟩:=hv;have I1:i9 X pins σ H {s with heap:=h',toks:=tk}:=I.turned (fun b o hb e=>kk b o (by simpa using hb) e) f0 f1 f3 f4 f5;refine ⟨_,rfl,bb2 (s:={s with heap:=h',toks:=tk}) (n:="range_iterator") st' rfl rfl (by decide) ⟨.int (lo+i),H,I1,⟨t,?_⟩,⟨rfl,rfl⟩,st',fun b hb=>(hf b hb).1⟩⟩;rw[Int.mul_one]
 done:=by
   intro X hP hw hK hc i pins s σ H E I hf st hg;subst hP hw hK;obtain ⟨f0,f1,f2,f3,f4,f5⟩:=hf it (by simp)
   exact wpAny_pyNext_range_end (I.ok.hd hc) st (by have:n<=i:=hg;omega) fun h' eb=>⟨rfl,I.turned (t':=s.toks) (fun b o hb e=>eb b o hb e) f0 f1 f3 f4 f5⟩
 self:=fun _ _ _ _ _ st h=>wpAny_pyIter_rangeiter st h
end L2
namespace L2
open PySem PySem.Spec PyProof.Rows
section
variable {X:Cx} {tg:Expr}
def dt5 (K:PySem.W.Frag)(tl:TE):TI:=fun σ H R=>tl σ H fun x H1=>∃a,x= .ref a/\(∃xs,i5 K H1 a xs)/\R (Itl K a) H1
theorem A0 {l:Expr}{tl:TE}(hl:PE X l tl):PI X tg l (dt5 X.K tl):=by
 intro pins s σ H R I h
 refine r6 (hl pins s σ H _ I h) fun v s1 ⟨x,H1,I1,r1,q1⟩=> ?_
 obtain ⟨a,e,⟨xs,hq⟩,q⟩:=q1;subst e;cases r1;obtain ⟨its,rv,p,hz⟩:=I1.list hq;refine wpAny_pyIter_list p.isList ?_;refine ⟨s1.heap.objs.size,[s1.heap.objs.size],_,_,H1,rfl,I1.kept (t':=s1.toks) fun b o e=>Heap.get?_push_of_some _ e,co2 a _,⟨_,Heap.get?_push_size _ rfl,rfl,rfl⟩,fun b hb=> ?_,q⟩
 have e:b=s1.heap.objs.size:=by simpa using hb
 subst e;exact I1.fpOk (ec6 _) (I1.hok.fresh (ec6 _))
theorem cy7 {pins:List (Addr×Obj)}{σ:St}{H:Hp}{s:Shared}{R:It->Hp->Prop}{E:Value->Shared->Prop}{lo hi:Int}{t u v:Tok}{tk:Nat}(I:i9 X pins σ H s)(h1: -(2^62)<=lo)(h2:lo < 2^62)(h3: -(2^62)<=hi)(h4:hi < 2^62)
   (q:R (Itr lo (hi - lo).toNat) H):wpAny (model X.prog X.w) X.A (pyIter (.ref s.heap.objs.size)) (PIE X pins σ tg R) E {s with heap:=s.heap.push {cls:= .type "range",data:= .fields #[.int lo t,.int hi u,.int 1 v]},toks:=tk}:=by
 refine wpAny_pyIter_range (IsRange.new ..) (small_one h1 h2 h3 h4) ?_
 have I1:i9 X pins σ H {s with heap:=s.heap.push {cls:= .type "range",data:= .fields #[.int lo t,.int hi u,.int 1 v]},toks:=tk}:=I.kept fun b o e=>Heap.get?_push_of_some _ e
 refine ⟨(s.heap.push {cls:= .type "range",data:= .fields #[.int lo t,.int hi u,.int 1 v]}).objs.size,[(s.heap.push {cls:= .type "range",data:= .fields #[.int lo t,.int hi u,.int 1 v]}).objs.size],_,_,H,rfl,
   I1.kept (t':=tk) fun b o e=>Heap.get?_push_of_some _ e,ci7 _ lo (hi - lo).toNat,?_,fun b hb=> ?_,q⟩
 · have e1:lo+((0:Nat):Int)*1=lo:=by simp
   have e2:(((hi - lo).toNat:Nat):Int) - ((0:Nat):Int)=Builtin.Range.rangeSize lo hi 1:=by rw[rangeSize_one];split<;>omega
   show IsRangeIter _ _ (lo+((0:Nat):Int)*1) ((((hi - lo).toNat:Nat):Int) - ((0:Nat):Int)) 1;rw[e1,e2];exact Heap.get?_push_size _ rfl
 · have e:b=(s.heap.push {cls:= .type "range",data:= .fields #[.int lo t,.int hi u,.int 1 v]}).objs.size:=by simpa using hb
   subst e;exact I1.fpOk (ec6 _) (I1.hok.fresh (ec6 _))
def dt6 (ta:TA):TI:=fun σ H R=>ta σ H fun vs H1=>∃j:Int,vs=[.int j]/\ -(2^62)<=j/\j < 2^62/\R (Itr 0 j.toNat) H1
theorem K2 {a:Expr}{ta:TA}{p pos:Pos}(hg:Gl X "range")(hm:X.mg "range"=none)(ha:PA X [a] ta)(hs:starEach [a] X.env=[(false,eval a X.env)]:=by rfl):PI X tg (.Call (.Name "range" p) [a] [] pos) (dt6 ta):=by
 intro pins s σ H R I h;refine Call_ (Q2 I hg hm boot_range (PyProof.Rows.callWith_type1 (r6 (ha pos pins s σ H _ I h) fun us s1 ⟨vs,H1,I1,r1,q1⟩=> ?_) hs rfl));obtain ⟨j,e,q1,q2,q⟩:=q1;subst e
 cases r1 with
 |cons r rr=>
  cases rr;obtain ⟨t,rfl⟩:=r;exact call_range_1 (cy7 I1 (by omega) (by omega) q1 q2 (by simpa using q))
def dy1 (wi:TI)(g:TG)(tb:TS):TS:=fun D σ H=>wi σ H fun J H1=>∃W:Nat->Nat->St->Hp->Prop,(∃m,W 0 m σ H1)/\∀i m σ H,W i m σ H->
 (J.stop i H/\D.nx σ H)\/(J.go i H/\∃N:St->Hp->Prop,(∀σ' H',N σ' H'->∃m',m' < m/\W (i+1) m' σ' H')/\∀x H',J.yld i H x H'->g x σ H' fun σ2 H2=>tb {D with nx:=N,ct:=N,bk:=D.nx} σ2 H2)
def ad4 (fp:List Addr)(h:Heap):List (Addr×Obj):=fp.filterMap fun b=>(h.get? b).map fun o=>(b,o)
theorem ac0 {fp:List Addr}{h:Heap}{b:Addr}{o:Obj}(hb:b∈fp)(e:h.get? b=some o):(b,o)∈ad4 fp h:=er3.mpr ⟨b,hb,by rw[e];rfl⟩
theorem bk3 {fp:List Addr}{h:Heap}{p:Addr×Obj}(hp:p∈ad4 fp h):p.1∈fp/\h.get? p.1=some p.2:=by
 obtain ⟨b,hb,e⟩:=er3.mp hp
 cases q:h.get? b with
 |none=>rw[q] at e;cases e
 |some o=>
  rw[q] at e;have e':(b,o)=p:=Option.some.inj e;subst e';exact ⟨hb,q⟩
theorem i9.pinned {pins:List (Addr×Obj)}{σ:St}{H:Hp}{s:Shared}{fp:List Addr}(I:i9 X pins σ H s)(hf:∀b∈fp,al3 X pins H b)(ho:∀b∈fp,∃o,s.heap.get? b=some o/\∀v,o.data≠.cell v):i9 X (pins++ad4 fp s.heap) σ H s:=
 I.pins_of fun p hp=>(ed8.mp hp).elim (fun z=>I.pin p (ed4 _ z)) fun z=>by
   obtain ⟨hb,e⟩:=bk3 z;obtain ⟨f0,f1,f2,_⟩:=hf p.1 hb;obtain ⟨o,e',d⟩:=ho p.1 hb;rw[e] at e';cases e';exact ⟨e,f0,f1,f2,d⟩
theorem i9.unpinned {pins pl:List (Addr×Obj)}{σ:St}{H:Hp}{s:Shared}(I:i9 X (pins++pl) σ H s):i9 X pins σ H s:=I.pins_of fun p hp=>I.pin p (ed4 _ (eg0 _ hp))
theorem A7 {iter:Expr}{body:List Stmt}{wi:TI}{g:TG}{tb:TS}{pos:Pos}(hp:PassesOwn (model X.prog X.w) X.A X.env X.xe)(hc:X.calm=true)(hi:PI X tg iter wi)(hg:PG X tg g)(hb:PSs X body tb)
   (hs:∀x,foldedSetIterable iter X.env x=pure x:=by intro _;rfl):PS X (.For tg iter body [] pos) (dy1 wi g tb):=by
 intro pins s σ H D I h;refine wpAny_For (r6 (hi pins s σ H _ I h) fun v s1 h1=>r6 h1 fun itv s2 h2=> ?_) hs;obtain ⟨it,fp,tn,J,H2,e,I2,T,st2,f2,W,⟨m0,w0⟩,turn⟩:=h2;subst e
 have stat:∀{H':Hp},(∀b∈fp,H' b=none)->∀b∈fp,al3 X pins H' b:=fun hn b hb=>⟨hn b hb,(f2 b hb).2⟩
 refine codeAny_forLoop_any (fun n s'=>∃i σ' H',i9 X pins σ' H' s'/\tn i s'.heap/\(∀b∈fp,H' b=none)/\W i n σ' H') ?_ m0 ⟨0,σ,H2,I2,st2,fun b hb=>(f2 b hb).1,w0⟩;rintro n s3 ⟨i,σ3,H3,I3,st3,fr3,w3⟩
 rcases turn i n σ3 H3 w3 with ⟨stop,qn⟩|⟨go,N,hN,step⟩
 · refine wpAny_passesOwn hp (r6 (T.done X rfl rfl rfl hc i pins s3 σ3 H3 X.xe I3 (stat fr3) st3 stop) fun r s4 ⟨hr,I4⟩=> ?_);subst hr;exact wpAny_execs_nil ⟨σ3,H3,I4,qn⟩
 · refine wpAny_passesOwn hp (r6 (T.item X rfl rfl rfl hc i pins s3 σ3 H3 X.xe I3 (stat fr3) st3 go) fun r s4 ⟨u,hr,h4⟩=> ?_);subst hr;refine wpAny_passesOwn hp (r6 h4 fun _ s5 ⟨x,H5,I5,r5,y5,st5,fr5⟩=> ?_);have I5':=I5.pinned (stat fr5) (T.obj _ _ st5);refine wpAny_passesOwn hp (r6 (hg _ s5 σ3 H5 x u _ I5' r5 (step x H5 y5)) fun _ s6 ⟨σ6,H6,I6,q6⟩=> ?_);refine wpAny_passesOwn hp (r6 (hb _ s6 σ6 H6 _ I6 q6) fun f s7 q7=> ?_)
   have again:∀{σ7:St} {H7:Hp},i9 X (pins++ad4 fp s5.heap) σ7 H7 s7->N σ7 H7->∃m,m < n/\∃i σ' H',i9 X pins σ' H' s7/\tn i s7.heap/\(∀b∈fp,H' b=none)/\W i m σ' H':=fun {σ7 H7} I7 n7=>by
     obtain ⟨m',hm,w7⟩:=hN σ7 H7 n7;refine ⟨m',hm,i+1,σ7,H7,I7.unpinned,T.keep _ _ _ st5 fun b hb o e=>(I7.pin (b,o) (ed4 _ (ed4 _ (ac0 hb e)))).1,fun b hb=> ?_,w7⟩;obtain ⟨o,e,d⟩:=T.obj _ _ st5 b hb;exact (I7.pin (b,o) (ed4 _ (ed4 _ (ac0 hb e)))).2.1
   cases f with
   |next=>obtain ⟨σ7,H7,I7,n7⟩:=q7;exact again I7 n7
   |cont=>obtain ⟨σ7,H7,I7,n7⟩:=q7;exact again I7 n7
   |brk=>obtain ⟨σ7,H7,I7,q7⟩:=q7;exact ⟨σ7,H7,I7.unpinned,q7⟩
   |ret v=>obtain ⟨x7,σ7,H7,I7,r7,q7⟩:=q7;exact ⟨x7,σ7,H7,I7.unpinned,r7,q7⟩
end
theorem E7 {K:PySem.W.Frag}{a:Addr}{xs:List V}{g:TG}{tb:TS}{D:T9}{σ:St}{H:Hp}(Pv:Nat->St->Hp->Prop)(h0:Pv 0 σ H)(hl:∀i σ H,i<=xs.length->Pv i σ H->i5 K H a xs)
   (hs:∀i x σ H,xs[i]? =some x->Pv i σ H->g x σ H fun σ2 H2=>tb {D with nx:=Pv (i+1),ct:=Pv (i+1),bk:=D.nx} σ2 H2) (hd:∀σ H,Pv xs.length σ H->D.nx σ H):
   ∃W:Nat->Nat->St->Hp->Prop,(∃m,W 0 m σ H)/\∀i m σ H,W i m σ H->
    ((Itl K a).stop i H/\D.nx σ H)\/((Itl K a).go i H/\∃N:St->Hp->Prop,(∀σ' H',N σ' H'->∃m',m' < m/\W (i+1) m' σ' H')/\∀x H',(Itl K a).yld i H x H'->g x σ H' fun σ2 H2=>tb {D with nx:=N,ct:=N,bk:=D.nx} σ2 H2):=by
 refine ⟨fun i m σ H=>m=xs.length - i/\i<=xs.length/\Pv i σ H,⟨xs.length,by simp,ee2 _,h0⟩,?_⟩;rintro i m σ H ⟨rfl,hi,p⟩;have q:=hl i σ H hi p
 by_cases hlt:i < xs.length
 · refine .inr ⟨⟨xs,xs[i],q,by simp [hlt]⟩,Pv (i+1),fun σ' H' p'=>⟨xs.length - (i+1),by omega,rfl,hlt,p'⟩,fun x H' y=> ?_⟩;obtain ⟨e,y⟩:=y;subst e;exact hs i x σ _ (y xs q) p
 · have e:i=xs.length:=by omega
   subst e;exact .inl ⟨⟨xs,q,ec6 _⟩,hd σ H p⟩
theorem M7 {lo:Int}{n:Nat}{g:TG}{tb:TS}{D:T9}{σ:St}{H:Hp}(Pv:Nat->St->Hp->Prop)(h0:Pv 0 σ H)
   (hs:∀i σ H,i < n->Pv i σ H->g (.int (lo+i)) σ H fun σ2 H2=>tb {D with nx:=Pv (i+1),ct:=Pv (i+1),bk:=D.nx} σ2 H2) (hd:∀σ H,Pv n σ H->D.nx σ H):
   ∃W:Nat->Nat->St->Hp->Prop,(∃m,W 0 m σ H)/\∀i m σ H,W i m σ H->
    ((Itr lo n).stop i H/\D.nx σ H)\/((Itr lo n).go i H/\∃N:St->Hp->Prop,(∀σ' H',N σ' H'->∃m',m' < m/\W (i+1) m' σ' H')/\∀x H',(Itr lo n).yld i H x H'->g x σ H' fun σ2 H2=>tb {D with nx:=N,ct:=N,bk:=D.nx} σ2 H2):=by
 refine ⟨fun i m σ H=>m=n - i/\i<=n/\Pv i σ H,⟨n,by simp,ee2 _,h0⟩,?_⟩;rintro i m σ H ⟨rfl,hi,p⟩
 by_cases hlt:i < n
 · refine .inr ⟨hlt,Pv (i+1),fun σ' H' p'=>⟨n - (i+1),by omega,rfl,hlt,p'⟩,fun x H' y=> ?_⟩;obtain ⟨e,y⟩:=y;subst e y;exact hs i σ _ hlt p
 · have e:i=n:=by omega
   subst e;exact .inl ⟨ec6 _,hd σ H p⟩
theorem ax7 {c:TT}{tb:TS}{D:T9}{σ:St}{H:Hp}(Pv:St->Hp->Prop)(μ:St->Hp->Nat)(h0:Pv σ H)
   (hs:∀σ H,Pv σ H->c σ H fun b H1=>if b=true then tb {D with nx:=fun σ' H'=>Pv σ' H'/\μ σ' H' < μ σ H,ct:=fun σ' H'=>Pv σ' H'/\μ σ' H' < μ σ H,bk:=D.nx} σ H1 else D.nx σ H1)
   (mono:∀σ H Q Q',(∀b H1,Q b H1->Q' b H1)->c σ H Q->c σ H Q'):co1 c tb D σ H:=by
 refine ⟨fun m σ H=>m=μ σ H/\Pv σ H,⟨_,rfl,h0⟩,?_⟩;rintro m σ H ⟨rfl,p⟩;refine mono σ H _ _ (fun b H1 q=> ?_) (hs σ H p)
 cases b with
 |true=>exact ⟨_,fun σ' H' ⟨p',l⟩=>⟨_,l,rfl,p'⟩,q⟩
 |false=>exact q
end L2
namespace L2
open PySem PySem.Spec PyProof.Rows
abbrev R2:=V->V->Hp->VK->Prop
def M8 (X:Cx)(f:Value->Value->Sem Value)(r:R2):Prop:=
 ∀(pins:List (Addr×Obj)) (s:Shared) (σ:St) (H:Hp) (x y:V) (v u:Value) (Q:VK),i9 X pins σ H s->w4 x v->w4 y u->r x y H Q->
  wpAny (model X.prog X.w) X.A (f v u) (EP X pins σ Q) X.xe s
def UnR (X:Cx)(f:Value->Sem Value)(r:V->Hp->VK->Prop):Prop:=
 ∀(pins:List (Addr×Obj)) (s:Shared) (σ:St) (H:Hp) (x:V) (v:Value) (Q:VK),i9 X pins σ H s->w4 x v->r x H Q->
  wpAny (model X.prog X.w) X.A (f v) (EP X pins σ Q) X.xe s
def K0 (X:Cx)(f:Value)(r:List V->Hp->VK->Prop):Prop:=
 ∀(pins:List (Addr×Obj)) (s:Shared) (σ:St) (H:Hp) (xs:List V) (us:List Value) (Q:VK),i9 X pins σ H s->o8 xs us->r xs H Q->
  wpAny (model X.prog X.w) X.A (call f us) (EP X pins σ Q) X.xe s
def tOp (r:R2)(ta tb:TE):TE:=fun σ H Q=>ta σ H fun x H1=>tb σ H1 fun y H2=>r x y H2 Q
def tUn (r:V->Hp->VK->Prop)(ta:TE):TE:=fun σ H Q=>ta σ H fun x H1=>r x H1 Q
def rI (C:Int->Int->Prop)(g:Int->Int->V):R2:=fun x y H Q=>∃i j,x= .int i/\y= .int j/\C i j/\Q (g i j) H
def rI0 (g:Int->Int->V):R2:=fun x y H Q=>∃i j,x= .int i/\y= .int j/\Q (g i j) H
def rU (g:Int->V):V->Hp->VK->Prop:=fun x H Q=>∃i,x= .int i/\Q (g i) H
section
variable {X:Cx} {a b c:Expr} {ta tb tc:TE} {pos:Pos}
theorem ci8 (ha:PE X a ta)(hb:PE X b tb){pins:List (Addr×Obj)}{s:Shared}{σ:St}{H:Hp}{R:V->V->Hp->Prop}(I:i9 X pins σ H s)
   (h:ta σ H fun x H1=>tb σ H1 fun y H2=>R x y H2) {Q:Value->Shared->Prop} {f:Value->Value->Sem Value}
   (hf:∀v u s2 x y H2,i9 X pins σ H2 s2->w4 x v->w4 y u->R x y H2->wpAny (model X.prog X.w) X.A (f v u) Q X.xe s2):
   wpAny (model X.prog X.w) X.A (eval a X.env) (fun v s₁=>wpAny (model X.prog X.w) X.A (eval b X.env) (fun u s₂=>wpAny (model X.prog X.w) X.A (f v u) Q X.xe s₂) X.xe s₁) X.xe s:=by
 refine r6 (ha pins s σ H _ I h) fun v s1 ⟨x,H1,I1,r1,q1⟩=> ?_
 refine r6 (hb pins s1 σ H1 _ I1 q1) fun u s2 ⟨y,H2,I2,r2,q2⟩=> ?_
 exact hf v u s2 x y H2 I2 r1 r2 q2
theorem q0 {op:Operator}{r:R2}(ho:M8 X (binaryOp op) r)(ha:PE X a ta)(hb:PE X b tb):PE X (.BinOp a op b pos) (tOp r ta tb):=by
 intro pins s σ H Q I h;exact wpAny_BinOp (ci8 ha hb I h fun v u s2 x y H2 I2 rx ry q=>ho pins s2 σ H2 x y v u Q I2 rx ry q)
theorem ci9 {op:UnaryOp}{r:V->Hp->VK->Prop}(ho:UnR X (unaryOp op) r)(ha:PE X a ta):PE X (.UnaryOp op a pos) (tUn r ta):=by
 intro pins s σ H Q I h;exact UnaryOp_ (r6 (ha pins s σ H _ I h) fun v s1 ⟨x,H1,I1,r1,q1⟩=>ho pins s1 σ H1 x v Q I1 r1 q1)
theorem opI {f:Value->Value->Sem Value}{C:Int->Int->Prop}{g:Int->Int->Int}
   (rule:∀(i j:Int) (t u:Tok) (s:Shared) (Q:Value->Shared->Prop) (E:Value->Shared->Prop),C i j->Q (.int (g i j) s.toks) {s with toks:=s.toks+1}->wpAny (model X.prog X.w) X.A (f (.int i t) (.int j u)) Q E s):
   M8 X f (rI C fun i j=> .int (g i j)):=by
 intro pins s σ H x y v u Q I rx ry h;obtain ⟨i,j,rfl,rfl,hc,q⟩:=h;obtain ⟨t,rfl⟩:=rx;obtain ⟨t',rfl⟩:=ry;exact rule i j t t' s _ _ hc ⟨.int (g i j),H,I.tok _,⟨_,rfl⟩,q⟩
theorem dn7 {f:Value->Value->Sem Value}{g:Int->Int->Int}
   (rule:∀(i j:Int) (t u:Tok) (s:Shared) (Q:Value->Shared->Prop) (E:Value->Shared->Prop),Q (.int (g i j) s.toks) {s with toks:=s.toks+1}->wpAny (model X.prog X.w) X.A (f (.int i t) (.int j u)) Q E s):
   M8 X f (rI0 fun i j=> .int (g i j)):=by
 intro pins s σ H x y v u Q I rx ry h;obtain ⟨i,j,rfl,rfl,q⟩:=h;obtain ⟨t,rfl⟩:=rx;obtain ⟨t',rfl⟩:=ry;exact rule i j t t' s _ _ ⟨.int (g i j),H,I.tok _,⟨_,rfl⟩,q⟩
theorem cj0 {f:Value->Value->Sem Value}{g:Int->Int->Bool}
   (rule:∀(i j:Int) (t u:Tok) (s:Shared) (Q:Value->Shared->Prop) (E:Value->Shared->Prop),Q (.bool (g i j)) s->wpAny (model X.prog X.w) X.A (f (.int i t) (.int j u)) Q E s):
   M8 X f (rI0 fun i j=> .bl (g i j)):=by
 intro pins s σ H x y v u Q I rx ry h;obtain ⟨i,j,rfl,rfl,q⟩:=h;obtain ⟨t,rfl⟩:=rx;obtain ⟨t',rfl⟩:=ry;exact rule i j t t' s _ _ ⟨.bl (g i j),H,I,rfl,q⟩
def dy2 (i j:Int):Prop:=0 < j/\j < 1073741824
def dn8 (i j:Int):Prop:=0<=j/\j<=1000000/\i.natAbs < 2^64
def cy8 (i j:Int):Prop:=(-(2^64) < i/\i < 2^64)\/(-(2^64) < j/\j < 2^64)
theorem cy8.ok {i j:Int}(h:cy8 i j):IntMulOk i j:=by
 rcases h with ⟨h1,h2⟩|⟨h1,h2⟩
 · exact .of_left (intBits_le_64 h1 h2)
 · exact .of_right (intBits_le_64 h1 h2)
theorem Q4:M8 X (binaryOp .Add) (rI0 fun i j=> .int (i+j)):=dn7 fun _ _ _ _ _ _ _ q=>add_int q
theorem bq9:M8 X (binaryOp .Sub) (rI0 fun i j=> .int (i - j)):=dn7 fun _ _ _ _ _ _ _ q=>sub_int q
theorem O5:M8 X (binaryOp .Mult) (rI cy8 fun i j=> .int (i*j)):=opI fun _ _ _ _ _ _ _ hc q=>mul_int q hc.ok
theorem dh3:M8 X (binaryOp .FloorDiv) (rI dy2 fun i j=> .int (i/j)):=opI fun i j _ _ _ _ _ hc q=>by
 have h1:(0:Int) < j:=hc.1;have h2:j < 1073741824:=hc.2;exact floordiv_int (by omega) (by rw[er6 i (by omega)];exact q) (.inl (PyProof.noPylong_small (by omega)))
theorem K6:M8 X (binaryOp .Mod) (rI (fun _ j=>0 < j) fun i j=> .int (i%j)):=opI fun i j _ _ _ _ _ hc q=>by
 have h1:(0:Int) < j:=hc;exact mod_int' (by omega) (by rw[Int.fmod_eq_emod_of_nonneg i (by omega)];exact q)
theorem dn9:M8 X (binaryOp .Pow) (rI dn8 fun i j=> .int (i^j.toNat)):=opI fun _ _ _ _ _ _ _ hc q=>pow_int_small hc.1 hc.2.1 hc.2.2 q
theorem unI {f:Value->Sem Value}{g:Int->Int}
   (rule:∀(i:Int) (t:Tok) (s:Shared) (Q:Value->Shared->Prop) (E:Value->Shared->Prop),Q (.int (g i) s.toks) {s with toks:=s.toks+1}->wpAny (model X.prog X.w) X.A (f (.int i t)) Q E s):
   UnR X f (rU fun i=> .int (g i)):=by
 intro pins s σ H x v Q I rx h;obtain ⟨i,rfl,q⟩:=h;obtain ⟨t,rfl⟩:=rx;exact rule i t s _ _ ⟨.int (g i),H,I.tok _,⟨_,rfl⟩,q⟩
theorem br0:UnR X (unaryOp .USub) (rU fun i=> .int (-i)):=unI fun _ _ _ _ _ q=>neg_int q
end
def do0:V->V->Bool
 | .non,.non=>true| .non,.int _=>true| .int _,.non=>true| .non,.bl _=>true| .bl _,.non=>true| .non,.str _=>true| .str _,.non=>true
 | .int _,.int _=>true| .bl _,.bl _=>true| .str _,.str _=>true| .byt _,.byt _=>true
 | .int _,.str _=>true| .str _,.int _=>true| .bl _,.str _=>true| .str _,.bl _=>true
 |_,_=>false
def rEq:R2:=fun x y H Q=>do0 x y=true/\Q (.bl (decide (x=y))) H
def rNe:R2:=fun x y H Q=>do0 x y=true/\Q (.bl (!decide (x=y))) H
theorem ce1 {i j:Int}:decide (V.int i=V.int j)=(i==j):=by
 rw[el0];simp
theorem co5 {i j:Bool}:decide (V.bl i=V.bl j)=(i==j):=by
 rw[el0];simp
theorem ce2 {i j:Str}:decide (V.str i=V.str j)=(i==j):=by
 rw[el0];simp
theorem ce3 {i j:Array UInt8}:decide (V.byt i=V.byt j)=(i.toList==j.toList):=by
 rw[el0];cases i;cases j;simp
section
variable {X:Cx} {a b c:Expr} {ta tb tc:TE} {pos:Pos}
theorem A3 {pins:List (Addr×Obj)}{σ:St}{H:Hp}{s:Shared}{Q:VK}{k k':Bool}(I:i9 X pins σ H s)(q:Q (.bl k) H)(e:k=k'):EP X pins σ Q (.bool k') s:=by
 subst e;exact ⟨.bl k,H,I,rfl,q⟩
theorem y8:M8 X (compareOp .Eq) rEq:=by
 intro pins s σ H x y v u Q I rx ry h;obtain ⟨hs,q⟩:=h
 cases x with
 |non=>
  cases rx
  cases y with
  |non=>cases ry;exact PySem.EqNone.eq_none_none (A3 I q (by simp))
  |bl j=>cases ry;exact PySem.EqNone.eq_none_bool (A3 I q (by simp))
  |int j=>obtain ⟨t',rfl⟩:=ry;exact PySem.EqNone.eq_none_int (A3 I q (by simp))
  |str j=>obtain ⟨t',rfl⟩:=ry;exact PySem.EqNone.eq_none_str (A3 I q (by simp))
  |_=>exact absurd (show false=true from hs) ed9
 |bl i=>
  cases rx
  cases y with
  |non=>cases ry;exact PySem.EqNone.eq_bool_none (A3 I q (by simp))
  |bl j=>cases ry;exact eq_bool (A3 I q co5)
  |str j=>obtain ⟨t',rfl⟩:=ry;exact PySem.EqMixed.eq_bool_str (A3 I q (by simp))
  |_=>exact absurd (show false=true from hs) ed9
 |int i=>
  obtain ⟨t,rfl⟩:=rx
  cases y with
  |non=>cases ry;exact PySem.EqNone.eq_int_none (A3 I q (by simp))
  |int j=>obtain ⟨t',rfl⟩:=ry;exact eq_int (A3 I q ce1)
  |str j=>obtain ⟨t',rfl⟩:=ry;exact PySem.EqMixed.eq_int_str (A3 I q (by simp))
  |_=>exact absurd (show false=true from hs) ed9
 |str i=>
  obtain ⟨t,rfl⟩:=rx
  cases y with
  |non=>cases ry;exact PySem.EqNone.eq_str_none (A3 I q (by simp))
  |bl j=>cases ry;exact PySem.EqMixed.eq_str_bool (A3 I q (by simp))
  |int j=>obtain ⟨t',rfl⟩:=ry;exact PySem.EqMixed.eq_str_int (A3 I q (by simp))
  |str j=>obtain ⟨t',rfl⟩:=ry;exact eq_str (A3 I q ce2)
  |_=>exact absurd (show false=true from hs) ed9
 |byt i=>
  obtain ⟨t,rfl⟩:=rx
  cases y with
  |byt j=>obtain ⟨t',rfl⟩:=ry;exact PySem.W.eq_bytes (A3 I q ce3)
  |_=>exact absurd (show false=true from hs) ed9
 |_=>cases y<;>exact absurd (show false=true from hs) ed9
theorem J3:M8 X (compareOp .NotEq) rNe:=by
 intro pins s σ H x y v u Q I rx ry h;obtain ⟨hs,q⟩:=h
 cases x with
 |non=>
  cases rx
  cases y with
  |non=>cases ry;exact PySem.EqNone.ne_none_none (A3 I q (by simp))
  |bl j=>cases ry;exact PySem.EqNone.ne_none_bool (A3 I q (by simp))
  |int j=>obtain ⟨t',rfl⟩:=ry;exact PySem.EqNone.ne_none_int (A3 I q (by simp))
  |str j=>obtain ⟨t',rfl⟩:=ry;exact PySem.EqNone.ne_none_str (A3 I q (by simp))
  |_=>exact absurd (show false=true from hs) ed9
 |bl i=>
  cases rx
  cases y with
  |non=>cases ry;exact PySem.EqNone.ne_bool_none (A3 I q (by simp))
  |bl j=>cases ry;exact ne_bool (A3 I q (congrArg not co5))
  |str j=>obtain ⟨t',rfl⟩:=ry;exact PySem.EqMixed.ne_bool_str (A3 I q (by simp))
  |_=>exact absurd (show false=true from hs) ed9
 |int i=>
  obtain ⟨t,rfl⟩:=rx
  cases y with
  |non=>cases ry;exact PySem.EqNone.ne_int_none (A3 I q (by simp))
  |int j=>obtain ⟨t',rfl⟩:=ry;exact ne_int (A3 I q (congrArg not ce1))
  |str j=>obtain ⟨t',rfl⟩:=ry;exact PySem.EqMixed.ne_int_str (A3 I q (by simp))
  |_=>exact absurd (show false=true from hs) ed9
 |str i=>
  obtain ⟨t,rfl⟩:=rx
  cases y with
  |non=>cases ry;exact PySem.EqNone.ne_str_none (A3 I q (by simp))
  |bl j=>cases ry;exact PySem.EqMixed.ne_str_bool (A3 I q (by simp))
  |int j=>obtain ⟨t',rfl⟩:=ry;exact PySem.EqMixed.ne_str_int (A3 I q (by simp))
  |str j=>obtain ⟨t',rfl⟩:=ry;exact ne_str (A3 I q (congrArg not ce2))
  |_=>exact absurd (show false=true from hs) ed9
 |byt i=>
  obtain ⟨t,rfl⟩:=rx
  cases y with
  |byt j=>obtain ⟨t',rfl⟩:=ry;exact PySem.W.ne_bytes (A3 I q (congrArg not ce3))
  |_=>exact absurd (show false=true from hs) ed9
 |_=>cases y<;>exact absurd (show false=true from hs) ed9
theorem bp9:M8 X (compareOp .Lt) (rI0 fun i j=> .bl (decide (i < j))):=cj0 fun _ _ _ _ _ _ _ q=>lt_int q
theorem cj1:M8 X (compareOp .LtE) (rI0 fun i j=> .bl (decide (i<=j))):=cj0 fun _ _ _ _ _ _ _ q=>le_int q
theorem au1:M8 X (compareOp .Gt) (rI0 fun i j=> .bl (decide (j < i))):=cj0 fun _ _ _ _ _ _ _ q=>gt_int q
theorem df1:M8 X (compareOp .GtE) (rI0 fun i j=> .bl (decide (j<=i))):=cj0 fun _ _ _ _ _ _ _ q=>ge_int q
theorem co6:M8 X (compareOp .In) (fun x y H Q=>∃i j,x= .str i/\y= .str j/\Q (.bl (!(Builtin.Str.occurrences j i 0 j.length 1).isEmpty)) H):=by
 intro pins s σ H x y v u Q I rx ry h;obtain ⟨i,j,rfl,rfl,q⟩:=h;obtain ⟨t,rfl⟩:=rx;obtain ⟨t',rfl⟩:=ry;exact in_str (A3 I q rfl)
theorem bb3:M8 X (compareOp .Is) (fun x y H Q=>y= .non/\Q (.bl (decide (x= .non))) H):=by
 intro pins s σ H x y v u Q I rx ry h;obtain ⟨rfl,q⟩:=h;cases ry;refine is_none_gen (A3 I q ?_)
 cases x<;>first
   |(cases rx;rfl)
   |(obtain ⟨t,rfl⟩:=rx;rfl)
theorem au2:M8 X (compareOp .IsNot) (fun x y H Q=>y= .non/\Q (.bl (!decide (x= .non))) H):=by
 intro pins s σ H x y v u Q I rx ry h;obtain ⟨rfl,q⟩:=h;cases ry;refine isnot_none_gen (A3 I q ?_)
 cases x<;>first
   |(cases rx;rfl)
   |(obtain ⟨t,rfl⟩:=rx;rfl)
theorem j8 (b:Expr){op:CmpOp}(h:op≠.In:=by decide)(h2:op≠.NotIn:=by decide):behindInMarks op b=false:=by
 have e1:(op==CmpOp.In)=false:=by cases op<;>first|rfl|exact absurd rfl h
 have e2:(op==CmpOp.NotIn)=false:=by cases op<;>first|rfl|exact absurd rfl h2
 cases b<;>simp [behindInMarks,e1,e2]
theorem G6 {op:CmpOp}{r:R2}(ho:M8 X (compareOp op) r)(ha:PE X a ta)(hb:PE X b tb)(hm:behindInMarks op b=false):PE X (.Compare a [op] [b] pos) (tOp r ta tb):=by
 intro pins s σ H Q I h;exact wpAny_Compare1 (ci8 ha hb I h fun v u s2 x y H2 I2 rx ry q=>ho pins s2 σ H2 x y v u Q I2 rx ry q) hm
def dt7 (t:TE):TT:=fun σ H Q=>t σ H fun x H'=>∃k,x= .bl k/\Q k H'
theorem j9 {op:CmpOp}{r:R2}(ho:M8 X (compareOp op) r)(ha:PE X a ta)(hb:PE X b tb)(hm:behindInMarks op b=false):PT X (.Compare a [op] [b] pos) (dt7 (tOp r ta tb)):=by
 intro pins s σ H Q I h
 refine wpAny_isTrue_Compare1 (r6 (ha pins s σ H _ I h) fun v s1 ⟨x,H1,I1,r1,q1⟩=>r6 (hb pins s1 σ H1 _ I1 q1) fun u s2 ⟨y,H2,I2,r2,q2⟩=>
   r6 (ho pins s2 σ H2 x y v u _ I2 r1 r2 q2) fun c s3 ⟨z,H3,I3,r3,k,e,q3⟩=> ?_) hm
 subst e;cases r3;exact wpAny_truthy_bool ⟨H3,I3,q3⟩
def do1 (r r':R2)(ta tb tc:TE):TE:=fun σ H Q=>ta σ H fun x H1=>tb σ H1 fun y H2=>r x y H2 fun z H3=>∃k,z= .bl k/\
 (if k=true then tc σ H3 fun w' H4=>r' y w' H4 Q else Q (.bl false) H3)
theorem cy9 {op op':CmpOp}{r r':R2}(ho:M8 X (compareOp op) r)(ho':M8 X (compareOp op') r')(ha:PE X a ta)(hb:PE X b tb)(hc:PE X c tc)
   (hm:lastMarks [op,op'] [b,c]=false:=by with_unfolding_all rfl):PE X (.Compare a [op,op'] [b,c] pos) (do1 r r' ta tb tc):=by
 intro pins s σ H Q I h
 refine Compare_chain (r6 (ha pins s σ H _ I h) fun v s1 ⟨x,H1,I1,r1,q1⟩=>chain_link (r6 (hb pins s1 σ H1 _ I1 q1) fun u s2 ⟨y,H2,I2,r2,q2⟩=>
   r6 (ho pins s2 σ H2 x y v u _ I2 r1 r2 q2) fun d s3 ⟨z,H3,I3,r3,k,e,q3⟩=> ?_)) hm
 subst e;cases r3;refine wpAny_truthy_bool ?_
 cases k with
 |false=>exact ite_ff ⟨.bl false,H3,I3,rfl,q3⟩
 |true=>exact ite_tt (chain_last (r6 (hc pins s3 σ H3 _ I3 q3) fun w' s4 ⟨z',H4,I4,r4,q4⟩=>ho' pins s4 σ H4 y z' u w' Q I4 r2 r4 q4))
theorem aq9:(sizeLine:Nat) < 2^63:=by rw[sizeLine_eq];decide
theorem J4:M8 X (binaryOp .Add) (fun x y H Q=>∃i j,x= .str i/\y= .str j/\i.length+j.length<=sizeLine/\Q (.str (i++j)) H):=by
 intro pins s σ H x y v u Q I rx ry h;obtain ⟨i,j,rfl,rfl,hz,q⟩:=h;obtain ⟨t,rfl⟩:=rx;obtain ⟨t',rfl⟩:=ry;exact add_str (fun t' tk=>⟨.str (i++j),H,I.tok _,⟨_,rfl⟩,q⟩) hz
def cz0 (b:Expr):Prop:=∀o i,subscripted b false o i=operate [o,i] (getItem o i)
theorem ca6 (ha:PE X a ta)(hb:PE X b tb)(hs:cz0 b):
   PE X (.Subscript a b pos) (tOp (fun x y H Q=>∃z i c,x= .str z/\y= .int i/\0<=i/\i < 2^63/\i < z.length/\z.cps[i.toNat]? =some c/\Q (.str ⟨#[c]⟩) H) ta tb):=by
 intro pins s σ H Q I h;refine Subscript_ (ci8 ha hb I h fun v u s2 x y H2 I2 rx ry q=> ?_);obtain ⟨z,i,c,rfl,rfl,h0,h63,h1,hc,q⟩:=q;obtain ⟨t,rfl⟩:=rx;obtain ⟨t',rfl⟩:=ry;have e:seqIndex? i z.length=some i.toNat:=PySem.StrLaws.seqIndex_nonneg h0 h1
 exact tail_any (typeIs_str s2 z t) slot_str_getitem.lookup (getItem_str (c:=c) (by
   have e1:decide (i < -(2^63:Int))=false:=decide_eq_false (by omega);have e2:decide (i≥2^63)=false:=decide_eq_false (by omega)
   rw[e1,e2]<;>rfl) (by rw[e];exact hc) ⟨.str ⟨#[c]⟩,H2,I2.tok _,⟨_,rfl⟩,q⟩) (hs _ _)
theorem M9 {x:V}{us:List Value}(r:o8 [x] us):∃u,us=[u]/\w4 x u:=by
 cases r with
 |cons r1 r2=>cases r2;exact ⟨_,rfl,r1⟩
theorem al5 {x y:V}{us:List Value}(r:o8 [x,y] us):∃u w',us=[u,w']/\w4 x u/\w4 y w':=by
 cases r with
 |cons r1 r2=>
  cases r2 with
  |cons r3 r4=>cases r4;exact ⟨_,_,rfl,r1,r3⟩
theorem co7 (hc:X.calm=true):K0 X (.builtin "max") (fun xs H Q=>∃i j,xs=[.int i,.int j]/\Q (.int (if j > i then j else i)) H):=by
 intro pins s σ H xs us Q I r h;obtain ⟨i,j,rfl,q⟩:=h;obtain ⟨u,w',rfl,⟨t,rfl⟩,⟨t',rfl⟩⟩:=al5 r
 refine max_two_ints (I.ok.hd hc) fun h' tk k=>⟨_,H,I.kept k,?_,q⟩
 by_cases hj:j > i
 · rw[if_pos hj,if_pos hj];exact ⟨_,rfl⟩
 · rw[if_neg hj,if_neg hj];exact ⟨_,rfl⟩
theorem co8 (hc:X.calm=true):K0 X (.builtin "min") (fun xs H Q=>∃i j,xs=[.int i,.int j]/\Q (.int (if j < i then j else i)) H):=by
 intro pins s σ H xs us Q I r h;obtain ⟨i,j,rfl,q⟩:=h;obtain ⟨u,w',rfl,⟨t,rfl⟩,⟨t',rfl⟩⟩:=al5 r
 refine min_two_ints (I.ok.hd hc) fun h' tk k=>⟨_,H,I.kept k,?_,q⟩
 by_cases hj:j < i
 · rw[if_pos hj,if_pos hj];exact ⟨_,rfl⟩
 · rw[if_neg hj,if_neg hj];exact ⟨_,rfl⟩
theorem br1:K0 X (.type "str") (fun xs H Q=>∃i,xs=[.int i]/\i.natAbs.log2 < 1920/\Q (.str (toString i)) H):=by
 intro pins s σ H xs us Q I r h;obtain ⟨i,rfl,hz,q⟩:=h;obtain ⟨u,rfl,t,rfl⟩:=M9 r;exact PySem.P.str_of_int hz ⟨.str _,H,I.tok _,⟨_,rfl⟩,q⟩
end
end L2
namespace L2
open PySem PySem.Spec PyProof.Rows
structure ax8 (h:Heap)(x dx C:Addr)(mA:Str->Option Value):Prop where
 obj:h.get? x=some (PySem.W.instObj C dx)
 ns:h.Ns1 dx mA
 ne:dx≠x
theorem co9 {h:Heap}{dx:Addr}{mA:Str->Option Value}(n:h.Ns1 dx mA):∃od,h.get? dx=some od/\∀name,PySem.W.lookIn name od=some (mA name):=by
 obtain ⟨o,es,ep,ho,hd,hk,_,hm⟩:=n;refine ⟨o,ho,fun name=> ?_⟩;have e:=hm name;unfold nsFind findBy at e;rw[<-Array.find?_toList] at e;unfold PySem.W.lookIn;rw[hd]
 dsimp only
 split
 · rename_i y q;rw[q] at e;exact congrArg some e
 · rename_i q;rw[q] at e
   have a:es.toList.any (·.refKey)=false:=by
     rw[List.any_eq_false];intro y hy;obtain ⟨z,t,hkey⟩:=hk y (Array.mem_toList_iff.mp hy);simp [DictEntry.refKey,hkey]
   have a':¬es.toList.any (·.refKey)=true:=by rw[a];exact ed9
   rw[if_neg a'];exact congrArg some e
theorem ax8.look {h:Heap}{x dx C:Addr}{mA:Str->Option Value}(I:ax8 h x dx C mA):∃od,PySem.W.InstAt h x (PySem.W.instObj C dx) C (some od)/\∀name,PySem.W.lookIn name od=some (mA name):=
 let ⟨od,ho,hl⟩:=co9 I.ns
 ⟨od,⟨I.obj,rfl,rfl,ho⟩,hl⟩
section
variable {prog:Program} {w:World} {A:Around} {E:Value->Shared->Prop} {s:Shared} {K:PySem.W.Frag} {x dx C f:Addr} {mA:Str->Option Value} {name:Str} {v:Value}
theorem dh4 {expr:Bool}{Q:Value->Shared->Prop}(X:K.In s.heap)(I:ax8 s.heap x dx C mA)(hg:PySem.W.plainGet K C name=true)(hh:PySem.W.hasDictIn K C=true)
   (ha:PySem.W.findIn K (.ref C) name=some none) (hv:mA name=some v) (hv':PySem.W.handedIn v=true) (h:Q v {s with toks:=s.toks+1}):
   wpAny (model prog w) A (getAttr (.ref x) name expr) Q E s:=by
 obtain ⟨od,J,hl⟩:=I.look;exact PySem.W.get_value X J (PySem.W.plainGet_of hg).1 (PySem.W.findObj_own hh ha rfl (by rw[hl,hv])) hv' h
theorem cz1 {pl:Sem Bool}{Q:Value×List Value->Shared->Prop}(X:K.In s.heap)(I:ax8 s.heap x dx C mA)(hg:PySem.W.plainGet K C name=true)
   (hf:PySem.W.findIn K (.ref C) name=some (some (.ref f))) (ht:PySem.W.isFn K (.ref f)=true) (hv:mA name=none) (h:Q (.ref f,[.ref x]) s):
   wpAny (model prog w) A (getMethod (.ref x) name pl) Q E s:=by
 obtain ⟨od,J,hl⟩:=I.look;exact PySem.W.method_fn X J (PySem.W.plainGet_of hg).1 (PySem.W.plainGet_of hg).2 hf (beq_iff_eq.mp ht) (by show (PySem.W.lookIn name od).map (·.isSome)=some false;rw[hl,hv];rfl) h
theorem dh5 {ns:List Str}{Q:Unit->Shared->Prop}(X:K.In s.heap)(I:ax8 s.heap x dx C mA)
   (hs:PySem.W.findIn K (.ref C) "__setattr__"=some (some (.builtin "object.__setattr__"))) (hp:PySem.W.plainOver K C=true) (ht:PySem.W.takerIn K C name=some none) (hh:PySem.W.hasDictIn K C=true)
   (hw:PySem.Within mA ns) (hsz:ns.length<=sizeLine)
   (h:∀h',ax8 h' x dx C (fun y=>if y=name then some v else mA y)->Heap.SameBut dx s.heap h'->Q () {s with heap:=h',toks:=s.toks+2}):
   wpAny (model prog w) A (setAttr (.ref x) name v) Q E s:=by
 obtain ⟨od,J,hl⟩:=I.look;refine PySem.W.set_plain X J hs (PySem.W.osa_open (s:={s with toks:=s.toks+1}) (r:=none) X J hp ht fun b=> ?_);obtain ⟨cd,hc,hd'⟩:=PySem.W.any_some hh;have hx:s.heap.get? x=some ⟨.ref C,some dx,.plain,#[]⟩:=I.obj;refine wpAny_bind (wpAny_pure (wpAny_bind (wpAny_bind (wpAny_loadPart hx (wpAny_bind (PySem.W.Looks.here (s:={s with toks:=s.toks+1}) (PySem.W.looks_clsIn X hc) ?_))))));rw[hd'];refine wpAny_pure (a:=some dx) (wpAny_bind (wpAny_pure (wpAny_bind ?_)))
 refine wpAny_nsSet1 (s:={s with toks:=s.toks+1}) I.ns fun h' hn2 hs2=> ?_
 obtain ⟨oD,esD,epD,hoD,hdD,hcD⟩:=hn2.count (PySem.Within.cons name v hw);refine wpAny_bind (wpAny_lookBehind hoD (by rw[hdD];exact pastItsLine_dict (ee0 hcD (by rw[ef6];omega))) ?_);exact wpAny_pure (h _ ⟨(hs2.2 _ (Ne.symm I.ne)).trans I.obj,hn2,I.ne⟩ hs2)
theorem cz2 {R:Result->Shared->Prop}{vs:List Value}{kw:List (Str×Value)}(X:K.In s.heap)(hm:PySem.W.makesIn K C=true)
   (hi:PySem.W.findIn K (.ref C) "__init__"=some (some (.ref f))) (hf:PySem.W.typeIn K (.ref f)=some (.type "function"))
   (h:codeAny (model prog w) (A.under (.builtin "type.__call__" ⟨.ref C::vs,kw⟩)) (.call (.ref f) ⟨.ref (s.heap.objs.size+1)::vs,kw⟩) (PySem.W.InitBack (s.heap.objs.size+1) R)
     {s with heap:=(s.heap.push PySem.W.emptyDict).push (PySem.W.instObj C s.heap.objs.size)}):
   codeAny (model prog w) A (.call (.ref C) ⟨vs,kw⟩) R s:=by
 obtain ⟨hh,g,d,t,os⟩:=s;exact PySem.W.make_core (PySem.W.makes_of X hm) (PySem.W.looks_findIn X hi) (fun self=>PySem.W.bind_fn X self hf) (.inl rfl) h
end
def U0 (f:Str)(v:V):List (Str×V)->List (Str×V)
 |[]=>[(f,v)]
 |(g,x)::r=>if g=f then (g,v)::r else (g,x)::U0 f v r
theorem aw4 (f g:Str)(v:V):∀fs:List (Str×V),(U0 f v fs).lookup g=if g=f then some v else fs.lookup g
 |[]=>by
  show em9 g [(f,v)]=_
  by_cases h:g=f
  · have hb:(g==f)=true:=beq_iff_eq.mpr h;simp only[em9,hb,if_pos h]
  · have hb:(g==f)=false:=beq_eq_false_iff_ne.mpr h;simp only[em9,hb,if_neg h]
 |(k,x)::r=>by
  have ih:=aw4 f g v r;rw[show U0 f v ((k,x)::r)=(if k=f then (k,v)::r else (k,x)::U0 f v r) from rfl]
  by_cases hk:k=f
  · rw[if_pos hk]
    by_cases h:g=k
    · have hb:(g==k)=true:=beq_iff_eq.mpr h;simp only[em9,hb,if_pos (h.trans hk)]
    · have hb:(g==k)=false:=beq_eq_false_iff_ne.mpr h;simp only[em9,hb,if_neg (fun e:g=f=>h (e.trans hk.symm))]
  · rw[if_neg hk]
    by_cases h:g=k
    · have hb:(g==k)=true:=beq_iff_eq.mpr h;simp only[em9,hb,if_neg (fun e:g=f=>hk (h.symm.trans e))]
    · have hb:(g==k)=false:=beq_eq_false_iff_ne.mpr h;simp only[em9,hb];exact ih
theorem ar0 (f:Str)(v:V):∀fs:List (Str×V),f∈(U0 f v fs).map (·.1)/\∀g,g∈fs.map (·.1)->g∈(U0 f v fs).map (·.1)
 |[]=>⟨by simp [U0],fun g h=>by simp at h⟩
 |(k,x)::r=>by
  obtain ⟨i1,i2⟩:=ar0 f v r;rw[show U0 f v ((k,x)::r)=(if k=f then (k,v)::r else (k,x)::U0 f v r) from rfl]
  by_cases hk:k=f
  · rw[if_pos hk];subst hk;exact ⟨by simp,fun g h=>by simpa using h⟩
  · rw[if_neg hk];refine ⟨?_,fun g h=> ?_⟩
    · rw[eg2];exact ec9 _ i1
    · rw[eg2] at h ⊢
      rcases ec8.mp h with e|e
      · exact ec8.mpr (.inl e)
      · exact ec9 _ (i2 g e)
theorem aw5 (f:Str)(v:V):∀fs:List (Str×V),(U0 f v fs).length<=fs.length+1
 |[]=>by simp [U0]
 |(k,x)::r=>by
  have ih:=aw5 f v r;rw[show U0 f v ((k,x)::r)=(if k=f then (k,v)::r else (k,x)::U0 f v r) from rfl]
  by_cases hk:k=f
  · rw[if_pos hk,ef6,ef6];omega
  · rw[if_neg hk,ef6,ef6];omega
theorem T8.some_of {v:V}{o:Option Value}(r:T8 (some v) o):∃u,o=some u/\w4 v u:=by
 cases o with
 |none=>exact (show False from r).elim
 |some u=>exact ⟨u,rfl,r⟩
theorem T8.none_of {o:Option Value}(r:T8 none o):o=none:=by
 cases o with
 |none=>rfl
 |some u=>exact (show False from r).elim
theorem cp0 {v:V}{u:Value}(r:w4 v u):PySem.W.handedIn u=true:=by
 cases v with
 |non=>cases (show u=Value.none from r);rfl
 |bl b=>cases (show u=Value.bool b from r);rfl
 |int i=>obtain ⟨t,e⟩:=(show ∃t,u=Value.int i t from r);cases e;rfl
 |str x=>obtain ⟨t,e⟩:=(show ∃t,u=Value.str x t from r);cases e;rfl
 |byt b=>obtain ⟨t,e⟩:=(show ∃t,u=Value.bytes b t from r);cases e;rfl
 |flt b=>obtain ⟨t,e⟩:=(show ∃t,u=Value.float b t from r);cases e;rfl
 |ref a=>cases (show u=Value.ref a from r);rfl
 |ty n=>cases (show u=Value.type n from r);rfl
section
variable {P:Program} {w:World} {H H':Hp} {h h':Heap} {a C dx:Addr} {fs fs':List (Str×V)}
theorem au3 (hok:E4 P w H h)(e:H a=some (.ins C dx fs)):∃mA,ax8 h a dx C mA/\(∀f,T8 (fs.lookup f) (mA f))/\PySem.Within mA (fs.map (·.1))/\fs.length<=1000/\H dx=some (.own a):=by
 obtain ⟨d,z,ne,ob,mA,n,r,q⟩:=(show A5 P w H h a (.ins C dx fs) from hok a _ e);exact ⟨mA,⟨ob,n,ne⟩,r,q,z,d⟩
end
structure Cls (K:PySem.W.Frag)(C:Addr):Prop where
 pg:PySem.W.plainGet K C Str.empty=true
 hd:PySem.W.hasDictIn K C=true
 po:PySem.W.plainOver K C=true
 sa:PySem.W.findIn K (.ref C) "__setattr__"=some (some (.builtin "object.__setattr__"))
theorem Cls.get {K:PySem.W.Frag}{C:Addr}(c:Cls K C)(f:Str):PySem.W.plainGet K C f=true:=c.pg
def ad5 (K:PySem.W.Frag)(C:Addr)(f:Str):Prop:=PySem.W.findIn K (.ref C) f=some none
theorem ad5.taker {K:PySem.W.Frag}{C:Addr}{f:Str}(n:ad5 K C f):PySem.W.takerIn K C f=some none:=by
 unfold PySem.W.takerIn;rw[show PySem.W.findIn K (.ref C) f=some none from n];rfl
structure ar1 (K:PySem.W.Frag)(C:Addr)(m:Str)(f:Addr):Prop where
 at_:PySem.W.findIn K (.ref C) m=some (some (.ref f))
 fn:PySem.W.isFn K (.ref f)=true
 kp:PySem.W.keepIn K (.ref f)=true
section
variable {X:Cx} {pins:List (Addr×Obj)} {σ:St} {H:Hp} {s:Shared} {a C dx:Addr} {fs:List (Str×V)} {f:Str} {v:V} {A:Around} {E:Value->Shared->Prop}
theorem cj2 {b:Bool}{Q:Value->Shared->Prop}(I:i9 X pins σ H s)(e:H a=some (.ins C dx fs))(c:Cls X.K C)(n:ad5 X.K C f)(l:fs.lookup f=some v)
   (h:∀u s',i9 X pins σ H s'->w4 v u->Q u s'):wpAny (model X.prog X.w) A (getAttr (.ref a) f b) Q E s:=by
 obtain ⟨mA,O,r,_,_,_⟩:=au3 I.hok e;obtain ⟨u,hu,ru⟩:=T8.some_of (v:=v) (o:=mA f) (by rw[<-l];exact r f);exact dh4 I.kIn O (c.get f) c.hd n hu (cp0 ru) (h u _ (I.tok _) ru)
theorem bb4 {m:Str}{g:Addr}{pl:Sem Bool}{Q:Value×List Value->Shared->Prop}(I:i9 X pins σ H s)(e:H a=some (.ins C dx fs))(c:Cls X.K C)(k:ar1 X.K C m g)(l:fs.lookup m=none)
   (h:Q (.ref g,[.ref a]) s):wpAny (model X.prog X.w) A (getMethod (.ref a) m pl) Q E s:=by
 obtain ⟨mA,O,r,_,_,_⟩:=au3 I.hok e;have hn:mA m=none:=T8.none_of (by rw[<-l];exact r m);exact cz1 I.kIn O (c.get m) k.at_ k.fn hn h
theorem cj3 {y:V}{u:Value}{Q:Unit->Shared->Prop}(I:i9 X pins σ H s)(e:H a=some (.ins C dx fs))(c:Cls X.K C)(n:ad5 X.K C f)(hl:fs.length < 1000)(ry:w4 y u)
   (h:∀s',i9 X pins σ (i8 H a (.ins C dx (U0 f y fs))) s'->Q () s'):wpAny (model X.prog X.w) A (setAttr (.ref a) f u) Q E s:=by
 obtain ⟨mA,O,r,wi,_,ho⟩:=au3 I.hok e
 have hz:(fs.map (·.1)).length<=sizeLine:=by rw[eb8,sizeLine_eq];omega
 refine dh5 I.kIn O c.sa c.po n.taker c.hd wi hz fun h' O' sb=>h _ ?_
 have hd:∃o,h'.get? dx=some o:=let ⟨o,_,_,e',_⟩:=O'.ns;⟨o,e'⟩;refine I.write (x:=a) (e:=dx) (by rw[e];exact True.intro) (.inr ho) (fun b q hb z=>(sb.2 b hb).trans z) hd ?_;refine ⟨by rw[i6 O.ne];exact ho,?_,O.ne,O'.obj,_,O'.ns,fun g=> ?_,fun g hg=> ?_⟩
 · have:=aw5 f y fs;omega
 · show T8 ((U0 f y fs).lookup g) (if g=f then some u else mA g);rw[aw4]
   by_cases q:g=f
   · rw[if_pos q,if_pos q];exact ry
   · rw[if_neg q,if_neg q];exact r g
 · by_cases q:g=f
   · rw[q];exact (ar0 f y fs).1
   · refine (ar0 f y fs).2 g (wi g fun z=>hg ?_);show (if g=f then some u else mA g)=none;rw[if_neg q];exact z
theorem i9.made (I:i9 X pins σ H s):i9 X pins σ (i8 (i8 H s.heap.objs.size (.own (s.heap.objs.size+1))) (s.heap.objs.size+1) (.ins C s.heap.objs.size []))
   {s with heap:=(s.heap.push PySem.W.emptyDict).push (PySem.W.instObj C s.heap.objs.size)}:=by
 have e1:(s.heap.push PySem.W.emptyDict).get? s.heap.objs.size=some PySem.W.emptyDict:=Heap.get?_push_size s.heap rfl
 have e2:((s.heap.push PySem.W.emptyDict).push (PySem.W.instObj C s.heap.objs.size)).get? (s.heap.objs.size+1)=some (PySem.W.instObj C s.heap.objs.size):=by
   have:=Heap.get?_push_size (s.heap.push PySem.W.emptyDict) (o:=PySem.W.instObj C s.heap.objs.size) rfl
   rwa [Heap.size_push] at this
 have e3:(s.heap.push PySem.W.emptyDict).Ns s.heap.objs.size (fun _=>none):=⟨PySem.W.emptyDict,#[],_,e1,rfl,(fun e he=>absurd he (by simp)),fun _=>rfl⟩;have I1:=I.laid (a:=s.heap.objs.size) (o:= .own (s.heap.objs.size+1)) (h':=s.heap.push PySem.W.emptyDict) (t':=s.toks) (fun b u q=>Heap.get?_push_of_some _ q) (ec6 _) ⟨_,e1⟩;refine I1.laid (a:=s.heap.objs.size+1) (o:= .ins C s.heap.objs.size []) (t':=s.toks) (fun b u q=>Heap.get?_push_of_some _ q) (et2 (Heap.size_push _ _)) ?_;have ne:s.heap.objs.size≠s.heap.objs.size+1:=ed2 (en9 _);refine ⟨by rw[i6 ne,c9],ee2 _,ne,e2,fun _=>none,(Heap.Ns1.of_empty e3).at fun o q=>Heap.get?_push_of_some _ q,fun _=>True.intro,fun y hy=>absurd rfl hy⟩
theorem dh6 {prog:Program}{w:World}{env:Env}{e:Expr}{f:Str}{pos:Pos}{s:Shared}{Q:Value->Shared->Prop}(hb:attributeBase e f env (eval e env)=eval e env)
   (h:wpAny (model prog w) A (eval e env) (fun o s₁=>wpAny (model prog w) A (getAttr o f true) Q E s₁) E s):wpAny (model prog w) A (eval (.Attribute e f pos) env) Q E s:=
 Attribute_any_ h (by rw[arm_eval_Attribute,hb])
end
def dy3 (K:PySem.W.Frag)(ta:TE)(f:Str):TE:=fun σ H Q=>ta σ H fun x H1=>∃a C dx fs v,x= .ref a/\H1 a=some (.ins C dx fs)/\Cls K C/\ad5 K C f/\fs.lookup f=some v/\Q v H1
def dy4 (K:PySem.W.Frag)(ta tv:TE)(f:Str):TS:=fun D σ H=>tv σ H fun y H1=>ta σ H1 fun x H2=>∃a C dx fs,x= .ref a/\H2 a=some (.ins C dx fs)/\Cls K C/\ad5 K C f/\fs.length < 1000/\
 D.nx σ (i8 H2 a (.ins C dx (U0 f y fs)))
section
variable {X:Cx} {o e value:Expr} {f:Str} {pos pos' tpos:Pos} {ta tv:TE}
theorem bb5 (he:PE X e ta)(hb:attributeBase e f X.env (eval e X.env)=eval e X.env):PE X (.Attribute e f pos) (dy3 X.K ta f):=by
 intro pins s σ H Q I h;refine dh6 hb (r6 (he pins s σ H _ I h) fun u s1 ⟨x,H1,I1,rx,a,C,dx,fs,v,ex,ea,c,n,l,q⟩=> ?_);subst ex;obtain rfl:u=Value.ref a:=rx
 exact cj2 I1 ea c n l fun u' s2 I2 ru=>⟨v,H1,I2,ru,q⟩
theorem do2 (ha:PE X o ta)(hv:PE X value tv)(hs:swapsWith value (some (.Attribute o f pos')) pos.line X.env=pure false):PS X (.Assign [.Attribute o f pos'] value pos) (dy4 X.K ta tv f):=by
 intro pins s σ H D I h;refine plainObj_wpAny_Assign_Attribute (r6 (hv pins s σ H _ I h) fun u s1 ⟨y,H1,I1,ry,q⟩=>r6 (ha pins s1 σ H1 _ I1 q) fun ov s2 ⟨x,H2,I2,rx,a,C,dx,fs,ex,ea,c,n,l,q2⟩=> ?_) hs;subst ex;obtain rfl:ov=Value.ref a:=rx
 exact cj3 I2 ea c n l ry fun s3 I3=>⟨σ,_,I3,q2⟩
end
section
variable {X:Cx} {pins:List (Addr×Obj)} {σ:St} {H:Hp} {s:Shared} {A:Around} {E:Value->Shared->Prop} {Q:Value->Shared->Prop} {c:Value} {b:Bool}
inductive V1 (K:PySem.W.Frag)(H:Hp):V->Value->Prop where
 |non:V1 K H .non (.type "NoneType")
 |bl (x:Bool):V1 K H (.bl x) (.type "bool")
 |int (i:Int):V1 K H (.int i) (.type "int")
 |str (x:Str):V1 K H (.str x) (.type "str")
 |flt (x:UInt64):V1 K H (.flt x) (.type "float")
 |lst {a:Addr} {xs:List V} (e:H a=some (.lst xs)):V1 K H (.ref a) (.type "list")
 |frz {a:Addr} {o:Obj} {xs:List V} (e:H a=some (.frz o (.lst xs))):V1 K H (.ref a) (.type "list")
 |tup {a:Addr} {xs:List V} (e:H a=some (.tup xs)):V1 K H (.ref a) (.type "tuple")
 |dK {a:Addr} {kvs:List (x5×V)} (e:H a=some (.dK kvs)):V1 K H (.ref a) (.type "dict")
 |dT {a:Addr} {kvs:List (List x5×V)} (e:H a=some (.dT kvs)):V1 K H (.ref a) (.type "dict")
 |ins {a C dx:Addr} {fs:List (Str×V)} (e:H a=some (.ins C dx fs)) (cl:Cls K C) (ha:PySem.W.findIn K (.ref C) "__class__"=some (some (.builtin "object.__class__")))
     (hn:PySem.W.specialIn K (.builtin "object.__class__") "__get__"=some (some (.builtin "getset_descriptor.__get__"))) (htk:PySem.W.takesIn K (.builtin "object.__class__")=some true)
     (hm:PySem.W.mroIn K C (.type "object")=some true):V1 K H (.ref a) (.ref C)
theorem cp1 {x:V}{u t:Value}(I:i9 X pins σ H s)(rx:w4 x u)(ty:V1 X.K H x t)(e:PySem.W.kitOne X.K t c=some b)(h:∀tk,Q (.bool b) {s with toks:=tk}):
   wpAny (model X.prog X.w) A (call (.builtin "isinstance") [u,c]) Q E s:=by
 cases ty with
 |non=>cases (show u=Value.none from rx);exact PySem.W.kia_one PySem.W.kitx_none I.kIn True.intro e (fun z=>nomatch z) h
 |bl y=>cases (show u=Value.bool y from rx);exact PySem.W.kia_one PySem.W.kitx_bool I.kIn True.intro e (fun z=>nomatch z) h
 |int i=>obtain ⟨t,q⟩:=(show ∃t,u=Value.int i t from rx);cases q;exact PySem.W.kia_one PySem.W.kitx_int I.kIn True.intro e (fun z=>nomatch z) h
 |str y=>obtain ⟨t,q⟩:=(show ∃t,u=Value.str y t from rx);cases q;exact PySem.W.kia_one PySem.W.kitx_str I.kIn True.intro e (fun z=>nomatch z) h
 |flt y=>obtain ⟨t,q⟩:=(show ∃t,u=Value.float y t from rx);cases q;exact PySem.W.kia_one PySem.W.kitx_float I.kIn True.intro e (fun z=>nomatch z) h
 |@lst a xs ea=>
  cases (show u=Value.ref a from rx);obtain ⟨_,_,n,_,h1⟩:=(show A5 X.prog X.w H s.heap a (.lst xs) from I.hok a _ ea);exact PySem.W.kia_one PySem.W.kitx_list I.kIn ⟨_,h1,rfl⟩ e (fun z=>nomatch z) h
 |@frz a ob xs ea=>
  cases (show u=Value.ref a from rx);obtain ⟨_,_,_,n,_,h1⟩:=(show A5 X.prog X.w H s.heap a (.frz ob (.lst xs)) from I.hok a _ ea);exact PySem.W.kia_one PySem.W.kitx_list I.kIn ⟨_,h1,rfl⟩ e (fun z=>nomatch z) h
 |@tup a xs ea=>
  cases (show u=Value.ref a from rx);obtain ⟨_,_,_,p⟩:=(show A5 X.prog X.w H s.heap a (.tup xs) from I.hok a _ ea);obtain ⟨o,h1,h2,_⟩:=p;exact PySem.W.kia_one PySem.W.kitx_tuple I.kIn ⟨o,h1,h2⟩ e (fun z=>nomatch z) h
 |@dK a kvs ea=>
  cases (show u=Value.ref a from rx);obtain ⟨_,_,vs,_,p⟩:=(show A5 X.prog X.w H s.heap a (.dK kvs) from I.hok a _ ea);obtain ⟨o,es,ep,h1,h2,_⟩:=p;exact PySem.W.kia_one PySem.W.kitx_dict I.kIn ⟨o,h1,h2.1⟩ e (fun z=>nomatch z) h
 |@dT a kvs ea=>
  cases (show u=Value.ref a from rx);obtain ⟨_,_,xs,_,o,es,ep,h1,h2,_⟩:=(show A5 X.prog X.w H s.heap a (.dT kvs) from I.hok a _ ea);exact PySem.W.kia_one PySem.W.kitx_dict I.kIn ⟨o,h1,h2.1⟩ e (fun z=>nomatch z) h
 |@ins a C dx fs ea cl ha hn htk hm=>
  cases (show u=Value.ref a from rx);obtain ⟨mA,O,_⟩:=au3 I.hok ea;obtain ⟨od,J,_⟩:=O.look;exact PySem.W.kia_one (PySem.W.kitx_own (cl.get _) cl.hd ha hn htk hm) I.kIn J e (fun z=>nomatch z) h
end
end L2
namespace L2
open PySem PySem.Spec PyProof.Rows
structure m7 (k:Nat)(A:Around):Prop where
 hd:A.handled=none
 dp:A.depth+3*k+5 < recursionLimit
 un:A.units+16*k+200 < cLine
 gd:A.guards=some []
theorem m7.mono {j k:Nat}{A:Around}(r:m7 k A)(h:j<=k):m7 j A:=⟨r.hd,by have:=r.dp;omega,by have:=r.un;omega,r.gd⟩
theorem m7.deeper {k:Nat}{A:Around}(r:m7 (k+1) A)(env:Env):m7 k (A.deeper env):=
 ⟨r.hd,by have:=r.dp;show A.depth+1+3*k+5 < _;omega,by have:=r.un;show A.units+3+16*k+200 < _;omega,r.gd⟩
theorem cj4 {A:Around}{C:Addr}{us:List Value}{kw:List (Str×Value)}:(A.under (.builtin "type.__call__" ⟨.ref C::us,kw⟩)).depth=A.depth+1:=by
 first|rfl|simp [Around.under,Code.weight,Code.isCreation,Code.isGuard,Code.isCaller,Code.frames,Code.isFrame,guardIds]
theorem cj5 {A:Around}{C:Addr}{us:List Value}{kw:List (Str×Value)}:(A.under (.builtin "type.__call__" ⟨.ref C::us,kw⟩)).units=A.units+1:=by
 first|rfl|simp [Around.under,Code.cUnits,Code.frames,Code.isFrame]
theorem ca7 {A:Around}{C:Addr}{us:List Value}{kw:List (Str×Value)}:(A.under (.builtin "type.__call__" ⟨.ref C::us,kw⟩)).guards=A.guards:=by
 simp [Around.under,Code.guards,Code.isGuard,guardIds,pushGuards_eq]
theorem m7.make {k:Nat}{A:Around}(r:m7 (k+1) A)(C:Addr)(us:List Value)(kw:List (Str×Value)):m7 k (A.under (.builtin "type.__call__" ⟨.ref C::us,kw⟩)):=
 ⟨r.hd,by have:=r.dp;rw[cj4];omega,by have:=r.un;rw[cj5];omega,by rw[ca7];exact r.gd⟩
theorem m7.depth {k:Nat}{A:Around}(r:m7 k A):A.depth < recursionLimit:=by have:=r.dp;omega
theorem m7.units {k:Nat}{A:Around}(r:m7 k A):A.units+64 < cLine:=by have:=r.un;omega
def V2:TA:=fun _ H Q=>Q [] H
def R6 (ta:TE)(tr:TA):TA:=fun σ H Q=>ta σ H fun x H1=>tr σ H1 fun xs H2=>Q (x::xs) H2
section
variable {X:Cx} {e:Expr} {es:List Expr} {te:TE} {t:TA} {pos:Pos}
theorem c6:PA X [] V2:=fun _ _ _ _ H Q I h=>Calls.spliced_nil ⟨[],H,I,.nil,h⟩
theorem c5 (ha:PE X e te)(hr:PA X es t)(hs:starEach (e::es) X.env=(false,eval e X.env)::starEach es X.env:=by rfl):PA X (e::es) (R6 te t):=by
 intro pos pins s σ H Q I h;rw[hs];show wpAny _ _ (spliced ((false,eval e X.env)::backTo pos (starEach es X.env))) _ _ s;refine Calls.spliced_cons (r6 (ha pins s σ H _ I h) fun u s1 ⟨x,H1,I1,r1,q1⟩=> ?_)
 exact r6 (hr pos pins s1 σ H1 _ I1 q1) fun us s2 ⟨xs,H2,I2,r2,q2⟩=>⟨x::xs,H2,I2,.cons r1 r2,q2⟩
def dy5 (t:TA):TE:=fun σ H Q=>t σ H fun xs H1=>xs.length<=sizeLine/\∀p,H1 p=none->Q (.ref p) (i8 H1 p (.tup xs))
def dy6 (t:TA):TE:=fun σ H Q=>t σ H fun xs H1=>xs.length<=sizeLine/\∀p,H1 p=none->Q (.ref p) (i8 H1 p (.lst xs))
theorem bb6 {x1}(h:PA X es t):PE X (.Tuple es x1 pos) (dy5 t):=by
 intro pins s σ H Q I hq;refine wpAny_Tuple_spliced (r6 (h pos pins s σ H _ I hq) fun us s1 ⟨xs,H1,I1,r,z,q⟩=>⟨by rw[<-r.length];exact z,?_⟩);have hf:H1 s1.heap.objs.size=none:=I1.hok.fresh (ec6 _);refine ⟨.ref s1.heap.objs.size,i8 H1 s1.heap.objs.size (.tup xs),I1.laid (t':=s1.toks) (fun b u e=>Heap.get?_push_of_some _ e) (ec6 _) ?_,rfl,q _ hf⟩;exact ⟨z,us,r,⟨_,Heap.get?_push_size _ rfl,rfl,_,rfl⟩⟩
theorem A6 (h:PA X es t):PE X (.List es pos) (dy6 t):=by
 intro pins s σ H Q I hq;refine wpAny_List_spliced (r6 (h pos pins s σ H _ I hq) fun us s1 ⟨xs,H1,I1,r,z,q⟩=>⟨by rw[<-r.length];exact z,?_⟩);have hf:H1 s1.heap.objs.size=none:=I1.hok.fresh (ec6 _);refine ⟨.ref s1.heap.objs.size,i8 H1 s1.heap.objs.size (.lst xs),I1.laid (t':=s1.toks) (fun b u e=>Heap.get?_push_of_some _ e) (ec6 _) ?_,rfl,q _ hf⟩;exact ⟨z,us,0,r,Heap.get?_push_size _ rfl⟩
end
abbrev Sp:=List V->Hp->VK->XK->Prop
abbrev CXT:=List Env->Hp->Shared->XK->Value->Shared->Prop
structure ax9 (P:Program)(w:World)(K:PySem.W.Frag)(mg:Str->Option Value)(base:Heap)(A:Around)(outer:List Env)(s:Shared)(H:Hp):Prop where
 frames:A.frames=some outer
 mod:Mod K mg base
 bs:∀b o,base.get? b=some o->s.heap.get? b=some o/\H b=none
 bsz:base.objs.size<=s.heap.objs.size
 funs:s.heap.FunFrames base outer
 frf:∀b∈C5 outer,H b=none
 hok:E4 P w H s.heap
 bare:AllBare s.gens
def CE (outer:List Env)(P:Program)(w:World)(H:Hp)(s:Shared)(Q:VK)(u:Value)(s':Shared):Prop:=
 ∃v H',s'.os=s.os/\AllBare s'.gens/\Un (C5 outer) [] H H' s.heap s'.heap/\E4 P w H' s'.heap/\w4 v u/\Q v H'
def CR (CX:CXT)(outer:List Env)(P:Program)(w:World)(H:Hp)(s:Shared)(Q:VK)(E:XK)(r:Result)(s':Shared):Prop:=
 match r with
 | .ok (.ret u)=>CE outer P w H s Q u s'
 | .ok _=>False
 | .error e=>CX outer H s E e s'
structure n5 (P:Program)(w:World)(K:PySem.W.Frag)(mg:Str->Option Value)(base:Heap)(CX:CXT)(k:Nat)(f:Addr)(fd:FuncData)(ps:List Str)(sp:Sp):Prop where
 len:∀vs H Q E,sp vs H Q E->vs.length=ps.length
 run:∀(A:Around) (outer:List Env) (s:Shared) (H:Hp) (args:Args) (us:List Value) (vs:List V) (Q:VK) (E:XK),m7 k A->ax9 P w K mg base A outer s H->BindsTo s fd args (ps.zip us)->o8 vs us->sp vs H Q E->
   codeAny (model P w) A (.call (.ref f) args) (CR CX outer P w H s Q E) s
theorem n5.imp {P:Program}{w:World}{K:PySem.W.Frag}{mg:Str->Option Value}{base:Heap}{CX:CXT}{k:Nat}{f:Addr}{fd:FuncData}{ps:List Str}{sp sp':Sp}(F:n5 P w K mg base CX k f fd ps sp)
   (h:∀vs H Q E,sp' vs H Q E->sp vs H Q E):n5 P w K mg base CX k f fd ps sp':=
 ⟨fun vs H Q E q=>F.len vs H Q E (h _ _ _ _ q),fun A outer s H args us vs Q E hr he hb hv hs=>F.run A outer s H args us vs Q E hr he hb hv (h _ _ _ _ hs)⟩
theorem ax9.make {P:Program}{w:World}{K:PySem.W.Frag}{mg:Str->Option Value}{base:Heap}{A:Around}{outer:List Env}{s:Shared}{H:Hp}(e:ax9 P w K mg base A outer s H)(C:Addr)(us:List Value)(kw:List (Str×Value)):
 ax9 P w K mg base (A.under (.builtin "type.__call__" ⟨.ref C::us,kw⟩)) outer s H:=⟨by first|exact e.frames|(simpa [Around.under,Code.envs,Code.isFrame,pushEnvs] using e.frames),e.mod,e.bs,e.bsz,e.funs,e.frf,e.hok,e.bare⟩
section
variable {X:Cx} {pins:List (Addr×Obj)} {σ:St} {H:Hp} {s s':Shared}
theorem i9.env0 (I:i9 X pins σ H s):ax9 X.prog X.w X.K X.mg X.base X.A X.stack s H:=
 ⟨I.ok.frames,I.ok.mod,I.bs,ee0 I.ok.bsz I.sz,I.stack,I.stkFree,I.hok,I.bare⟩
theorem i9.after {Q:VK}{u:Value}(I:i9 X pins σ H s)(h:CE X.stack X.prog X.w H s Q u s'):EP X pins σ Q u s':=by
 obtain ⟨v,H',os,bare,un,hok,r,q⟩:=h;obtain ⟨hh,g,d,t,os'⟩:=s';obtain rfl:os'=s.os:=os;exact ⟨v,H',I.call (h':=hh) (g':=g) (d':=d) (t':=t) (ch:=[]) un hok bare (fun b z=>absurd z (by simp)),r,q⟩
end
def cj6 (sp:Sp)(dvs:List V)(E:XK)(t:TA):TE:=fun σ H Q=>t σ H fun vs H1=>sp (vs++dvs) H1 Q E
def cj7 (C:Addr)(m:Str)(sp:Sp)(dvs:List V)(E:XK)(ta:TE)(t:TA):TE:=fun σ H Q=>ta σ H fun x H1=>∃a dx fs,x= .ref a/\H1 a=some (.ins C dx fs)/\fs.lookup m=none/\
 t σ H1 fun vs H2=>sp (x::(vs++dvs)) H2 Q E
def df2 (C:Addr)(sp:Sp)(dvs:List V)(E:XK)(t:TA):TE:=fun σ H Q=>t σ H fun vs H1=>∀x dx,H1 x=none->H1 dx=none->dx≠x->
 sp (.ref x::(vs++dvs)) (i8 (i8 H1 dx (.own x)) x (.ins C dx [])) (fun v H2=>v= .non/\Q (.ref x) H2) E
def L6 (K:PySem.W.Frag)(fd:FuncData)(ps:List Str)(ds:List Value):Prop:=
 ∀(s:Shared) (us:List Value),K.In s.heap->(us++ds).length=ps.length->BindsTo s fd ⟨us,[]⟩ (ps.zip (us++ds))
theorem L6.all {K:PySem.W.Frag}{fd:FuncData}{ps:List Str}(h:∀us:List Value,us.length=ps.length->bindArgs fd ⟨us,[]⟩=pure (ps.zip us)):L6 K fd ps []:=fun s us _ hl=>by
 rw[ef4] at hl ⊢;exact .of_eq (h us hl)
def aa4 (CX:CXT)(X:Cx)(E:XK):Prop:=∀(pins:List (Addr×Obj)) (σ:St) (H:Hp) (s:Shared) (e:Value) (s':Shared),i9 X pins σ H s->CX X.stack H s E e s'->X.xe e s'
section
variable {X:Cx} {CX:CXT} {k:Nat} {f C:Addr} {fd:FuncData} {ps:List Str} {sp:Sp} {dvs:List V} {ds:List Value} {E:XK} {x m:Str} {p pos apos:Pos} {e o:Expr} {es:List Expr} {ta:TE} {t:TA}
theorem cp2 {pins:List (Addr×Obj)}{σ:St}{H:Hp}{s:Shared}{Q:VK}{us:List Value}{vs:List V}(F:n5 X.prog X.w X.K X.mg X.base CX k f fd ps sp)(hr:m7 k X.A)(hb:L6 X.K fd ps ds)(hd:o8 dvs ds)(hx:aa4 CX X E)
   (I:i9 X pins σ H s) (r:o8 vs us) (h:sp (vs++dvs) H Q E):wpAny (model X.prog X.w) X.A (call (.ref f) us) (EP X pins σ Q) X.xe s:=by
 have r2:o8 (vs++dvs) (us++ds):=r.append hd
 have hl:(us++ds).length=ps.length:=by rw[<-r2.length];exact F.len _ _ _ _ h
 refine wpAny_call (codeAny_mono (F.run X.A X.stack s H ⟨us,[]⟩ (us++ds) (vs++dvs) Q E hr I.env0 (hb s us I.kIn hl) r2 h) fun r s' hq=> ?_)
 cases r with
 |error e=>exact hx pins σ H s e s' I hq
 |ok fl=>
  cases fl with
  |ret u=>exact I.after hq
  |next=>exact False.elim hq
  |brk=>exact False.elim hq
  |cont=>exact False.elim hq
theorem ce4 (F:n5 X.prog X.w X.K X.mg X.base CX k f fd ps sp)(hr:m7 k X.A)(hg:Gl X x)(hm:X.mg x=some (.ref f))(hk:PySem.W.keepIn X.K (.ref f)=true)(hb:L6 X.K fd ps ds)(hd:o8 dvs ds)(hx:aa4 CX X E)
   (ha:PA X (e::es) t) (hdb:(x==("__debug__":Str))=false:=by decide) (he:starEach (e::es) X.env=(false,eval e X.env)::starEach es X.env:=by rfl) (hpl:(backTo pos (starEach es X.env)).any (·.1)=false:=by rfl):
   PE X (.Call (.Name x p) (e::es) [] pos) (cj6 sp dvs E t):=by
 intro pins s σ H Q I h;refine wpAny_Call_Name_kw (aj3 I hg hm ?_ hdb);refine PySem.W.callWith_K (h₀:=X.base) I.ok.mod.kin hk (r6 (ha pos pins s σ H _ I h) fun us s1 ⟨vs,H1,I1,r,q⟩=>⟨I1.kIn,?_⟩) he hpl;exact cp2 F hr hb hd hx I1 r q
theorem dh7 {pl:Sem Bool}(he:PE X o ta)(c:Cls X.K C)(hm:ar1 X.K C m f)(F:n5 X.prog X.w X.K X.mg X.base CX k f fd ps sp)(hr:m7 k X.A)(hb:L6 X.K fd ps ds)(hd:o8 dvs ds)(hx:aa4 CX X E)(ha:PA X (e::es) t)
   (hst:starEach (e::es) X.env=(false,eval e X.env)::starEach es X.env:=by rfl) (hpl:(backTo pos (starEach es X.env)).any (·.1)=false:=by rfl)
   (ht:eval (.Call (.Attribute o m apos) (e::es) [] pos) X.env=(do
     let ov <-eval o X.env
     standAt apos.atName
     let (f,first) <-holding [ov] (getMethod ov m pl)
     callWith pos f first (backTo pos (starEach (e::es) X.env)) (backToKw pos (keywordEach [] X.env))):=by rfl):
   PE X (.Call (.Attribute o m apos) (e::es) [] pos) (cj7 C m sp dvs E ta t):=by
 intro pins s σ H Q I h;refine PySem.W.methodCall_KW (pl:=pl) (r6 (he pins s σ H _ I h) fun u s1 ⟨x,H1,I1,rx,a,dx,fs,ex,ea,l,q⟩=> ?_) ht;subst ex;obtain rfl:u=Value.ref a:=rx;refine bb4 I1 ea c hm l ?_;refine PySem.W.callWith_K (first:=[.ref a]) (h₀:=X.base) I.ok.mod.kin hm.kp (r6 (ha pos pins s1 σ H1 _ I1 q) fun us s2 ⟨vs,H2,I2,r,q2⟩=>⟨I2.kIn,?_⟩) hst hpl;exact cp2 (us:= .ref a::us) (vs:= .ref a::vs) F hr hb hd hx I2 (.cons rfl r) q2
structure Mk (K:PySem.W.Frag)(C f:Addr):Prop where
 makes:PySem.W.makesIn K C=true
 init:PySem.W.findIn K (.ref C) "__init__"=some (some (.ref f))
 fn:PySem.W.isFn K (.ref f)=true
 kp:PySem.W.keepIn K (.ref C)=true
theorem cz3 {pins:List (Addr×Obj)}{σ:St}{H:Hp}{s:Shared}{Q:VK}{us:List Value}{vs:List V}(M:Mk X.K C f)(F:n5 X.prog X.w X.K X.mg X.base CX k f fd ps sp)(hr:m7 (k+1) X.A)(hb:L6 X.K fd ps ds)(hd:o8 dvs ds)
   (hx:aa4 CX X E) (I:i9 X pins σ H s) (r:o8 vs us)
   (h:∀x dx,H x=none->H dx=none->dx≠x->sp (.ref x::(vs++dvs)) (i8 (i8 H dx (.own x)) x (.ins C dx [])) (fun v H2=>v= .non/\Q (.ref x) H2) E):
   wpAny (model X.prog X.w) X.A (call (.ref C) us) (EP X pins σ Q) X.xe s:=by
 have hq:=h (s.heap.objs.size+1) s.heap.objs.size (I.hok.fresh (ek2 _)) (I.hok.fresh (ec6 _)) (ed2 (en9 _));have I2:=i9.made (C:=C) I;have r2:o8 (V.ref (s.heap.objs.size+1)::(vs++dvs)) (Value.ref (s.heap.objs.size+1)::(us++ds)):= .cons rfl (r.append hd)
 have hl:(Value.ref (s.heap.objs.size+1)::us++ds).length=ps.length:=by
   have e:=r2.length;rw[F.len _ _ _ _ hq] at e;exact e.symm
 refine wpAny_call (cz2 (f:=f) I.kIn M.makes M.init (beq_iff_eq.mp M.fn) (codeAny_mono (F.run _ X.stack _ _ ⟨Value.ref (s.heap.objs.size+1)::us,[]⟩ (Value.ref (s.heap.objs.size+1)::(us++ds)) _ _ E (hr.make C us [])
   (I2.env0.make C us []) (hb _ (Value.ref (s.heap.objs.size+1)::us) I2.kIn hl) r2 hq) fun r s' hq'=> ?_))
 cases r with
 |error e=>exact hx pins σ _ _ e s' I2 hq'
 |ok fl=>
  cases fl with
  |ret u=>
   obtain ⟨v,H',I3,rv,ev,q3⟩:=I2.after hq';subst ev;exact ⟨rv,⟨V.ref (s.heap.objs.size+1),H',I3,rfl,q3⟩⟩
  |next=>exact False.elim hq'
  |brk=>exact False.elim hq'
  |cont=>exact False.elim hq'
theorem cz4 (M:Mk X.K C f)(F:n5 X.prog X.w X.K X.mg X.base CX k f fd ps sp)(hr:m7 (k+1) X.A)(hg:Gl X x)(hm:X.mg x=some (.ref C))(hb:L6 X.K fd ps ds)(hd:o8 dvs ds)(hx:aa4 CX X E)
   (hdb:(x==("__debug__":Str))=false:=by decide):PE X (.Call (.Name x p) [] [] pos) (df2 C sp dvs E V2):=by
 intro pins s σ H Q I h;refine wpAny_Call_Name_kw (aj3 I hg hm ?_ hdb);exact PySem.W.callWith_K0 I.kIn M.kp (cz3 (us:=[]) M F hr hb hd hx I .nil h)
end
def PK (X:Cx)(kws:List Keyword)(t:TA):Prop:=
 ∀(pos:Pos) (pins:List (Addr×Obj)) (s:Shared) (σ:St) (H:Hp) (Q:List V->Hp->Prop),i9 X pins σ H s->t σ H Q->wpAny (model X.prog X.w) X.A (evalAll ((backToKw pos (keywordEach kws X.env)).map (·.2))) (AP X pins σ Q) X.xe s
section
variable {X:Cx} {CX:CXT} {k:Nat} {f C:Addr} {fd:FuncData} {ps ks:List Str} {sp:Sp} {E:XK} {x m:Str} {p pos apos kpos:Pos} {e o:Expr} {es:List Expr} {kws:List Keyword} {te ta:TE} {t tk:TA} {nm:Option Str}
theorem do3:PK X [] V2:=fun _ _ _ _ H Q I h=>wpAny_evalAll_nil ⟨[],H,I,.nil,h⟩
theorem dh8 (ha:PE X e te)(hr:PK X kws t):PK X (⟨nm,e,kpos⟩::kws) (R6 te t):=by
 intro pos pins s σ H Q I h;show wpAny _ _ (evalAll ((do let v <-eval e X.env;standAt pos;pure v)::(backToKw pos (keywordEach kws X.env)).map (·.2))) _ _ s;refine wpAny_evalAll_cons (wpAny_bind (r6 (ha pins s σ H _ I h) fun u s1 ⟨x,H1,I1,r1,q1⟩=>wpAny_bind (wpAny_standAt (wpAny_pure ?_))))
 exact r6 (hr pos pins s1 σ H1 _ I1 q1) fun us s2 ⟨xs,H2,I2,r2,q2⟩=>⟨x::xs,H2,I2,.cons r1 r2,q2⟩
variable {g:List Value->List Value->List Value} {gV:List V->List V->List V}
end
structure m9 (N P:List Str)(sc:Scope):Prop where
 kind:sc.kind= .function
 co:sc.isCoroutine=false
 gen:sc.isGenerator=false
 nd:N.Nodup
 pre:N.take P.length=P
 par:∀x∈P,sc.names.lookup x=some .local\/sc.names.lookup x=some .cell
 nofree:∀y∈sc.names,y.2≠.free
theorem bk5 {kindOf:Str->Option NameKind}{x:Str}:∀{binds:List (Str×Value)} {m:Str->Option Value},(∀v,(x,v)∉binds)->bindL kindOf binds m x=m x
 |[],_,_=>rfl
 |(n,v)::r,m,h=>by
  unfold bindL;rw[bk5 fun w hw=>h w (ec9 _ hw)]
  split
  · have:x≠n:=by rintro rfl;exact h v ec5
    simp [this]
  · rfl
theorem bk6 {kindOf:Str->Option NameKind}{x:Str}:∀{binds:List (Str×Value)} {m:Str->Option Value},(∀v,(x,v)∉binds)->bindC kindOf binds m x=m x
 |[],_,_=>rfl
 |(n,v)::r,m,h=>by
  unfold bindC;rw[bk6 fun w hw=>h w (ec9 _ hw)]
  split
  · rfl
  · have:x≠n:=by rintro rfl;exact h v ec5
    simp [this]
theorem bk7 {kindOf:Str->Option NameKind}{x:Str}{v:Value}:∀{P:List Str} {vs:List Value} {i:Nat} {m:Str->Option Value},P.Nodup->P[i]? =some x->vs[i]? =some v->kindOf x=some .local->
   bindL kindOf (P.zip vs) m x=some v
 |[],_,_,_,_,h,_,_=>by simp at h
 |_::_,[],_,_,_,_,h,_=>by simp at h
 |p::P,w::vs,0,m,nd,h1,h2,hk=>by
  simp at h1 h2;subst h1;subst h2;show bindL kindOf ((p,w)::P.zip vs) m p=_;unfold bindL;rw[bk5 fun v hv=>(eg7.mp nd).1 (et9 hv).1,if_pos hk];simp
 |p::P,w::vs,i+1,m,nd,h1,h2,hk=>by
  show bindL kindOf ((p,w)::P.zip vs) m x=_;unfold bindL;exact bk7 (i:=i) (eg7.mp nd).2 (by simpa using h1) (by simpa using h2) hk
theorem bk8 {kindOf:Str->Option NameKind}{x:Str}{v:Value}:∀{P:List Str} {vs:List Value} {i:Nat} {m:Str->Option Value},P.Nodup->P[i]? =some x->vs[i]? =some v->kindOf x≠some .local->
   bindC kindOf (P.zip vs) m x=some v
 |[],_,_,_,_,h,_,_=>by simp at h
 |_::_,[],_,_,_,_,h,_=>by simp at h
 |p::P,w::vs,0,m,nd,h1,h2,hk=>by
  simp at h1 h2;subst h1;subst h2;show bindC kindOf ((p,w)::P.zip vs) m p=_;unfold bindC;rw[bk6 fun v hv=>(eg7.mp nd).1 (et9 hv).1,if_neg hk];simp
 |p::P,w::vs,i+1,m,nd,h1,h2,hk=>by
  show bindC kindOf ((p,w)::P.zip vs) m x=_;unfold bindC;exact bk8 (i:=i) (eg7.mp nd).2 (by simpa using h1) (by simpa using h2) hk
def ac1 (N:List Str)(vs:List V):St:=vs.map some++ed1 (N.length - vs.length) none
def ah7 (CX:CXT)(P:Program)(w:World)(K:PySem.W.Frag)(mg:Str->Option Value)(base:Heap)(N:List Str)(qual:Str)(scope:Scope)(f:Addr)(cd:Value)(A:Around)(outer:List Env)(s:Shared)(H:Hp)(E:XK):Cx where
 prog:=P
 w:=w
 K:=K
 mg:=mg
 base:=base
 A:=A.deeper (envOfC qual scope s.heap.objs.size f cd)
 N:=N
 s₀:=s
 H₀:=H
 env:=envOfC qual scope s.heap.objs.size f cd
 outer:=outer
 stack:=envOfC qual scope s.heap.objs.size f cd::outer
 ex:=[]
 calm:=true
 fn:=fun _=>true
 pn:=[]
 xe:=fun e s'=>wpAny (model P w) (A.deeper (envOfC qual scope s.heap.objs.size f cd)) (leaving (envOfC qual scope s.heap.objs.size f cd) e) (fun _ s''=>CX outer H s E e s'') (fun e' s''=>CX outer H s E e' s'') s'
theorem br2 {sc:Scope}{n:Nat}{x:Str}(h:sc.names.lookup x=some .cell):∃c,(cellsFrom n sc.names []).lookup x=some c:=by
 have q:=PySem.W.cellsFrom_some sc.names n [] (.inl h);exact el6.mp q
theorem cp3 {CX:CXT}{P:Program}{w:World}{K:PySem.W.Frag}{mg:Str->Option Value}{base:Heap}{N ps:List Str}{qual:Str}{scope:Scope}{f:Addr}{cd:Value}{A:Around}{outer:List Env}{s s1:Shared}{H:Hp}{E:XK}{us:List Value}{vs:List V}
   (S:m9 N ps scope) (hd:A.handled=none) (e0:ax9 P w K mg base A outer s H) (hl:vs.length=ps.length) (r:o8 vs us)
   (x:InCallC s s.heap.objs.size (bindL (envOfC qual scope s.heap.objs.size f cd).kindOf (ps.zip us) fun _=>none) (cellsFrom (s.heap.objs.size+1) scope.names []) (bindC (envOfC qual scope s.heap.objs.size f cd).kindOf (ps.zip us) fun _=>none) s1):
   i9 (ah7 CX P w K mg base N qual scope f cd A outer s H E) [] (ac1 N vs) H s1:=by
 have hpl:ps.length<=N.length:=by have:=congrArg en0 S.pre;rw[ed3] at this;omega
 obtain ⟨h1,tk,rfl,hk⟩:=x.done
 have noA:∀b:Addr,b∉(ah7 CX P w K mg base N qual scope f cd A outer s H E).ex:=fun b z=>absurd (show b∈([]:List Addr) from z) (by simp)
 refine ⟨⟨e0.mod,S.kind,rfl,rfl,ec6 _,fun y z c h1 h2=> ?_,fun y hy=> ?_,fun y c _ h=> ?_,fun _=>hd,Around.frames_deeper e0.frames,.inr ⟨rfl,rfl⟩,fun b z=>absurd z (noA b),e0.bs,e0.bsz,fun b _ _=>noA b,fun b z=>absurd z (noA b),e0.funs,e0.frf⟩,
   rfl,e0.bare,Un.kept hk,⟨_,x.toInCall.ns,fun i y v h1 h2 h3=> ?_⟩,fun y c h=>⟨_,x.cell y c h⟩,e0.hok.fresh (ec6 _),fun y c h=> ?_,fun p hp=>absurd (show p∈([]:List (Addr×Obj)) from hp) (by simp),e0.hok.kept hk,?_⟩
 · exact name_of_addr x.apart (PySem.mem_of_lookup h1) (PySem.mem_of_lookup h2)
 · have hy:scope.names.lookup y=some .cell\/scope.names.lookup y=some .free:=hy
   rcases hy with hy|hy
   · exact br2 hy
   · exact absurd rfl (S.nofree _ (PySem.mem_of_lookup hy))
 · exact eh9 (x.above y c (PySem.mem_of_lookup h))
 · have hi:i < vs.length:=by
     unfold ac1 at h2
     by_cases hi:i < vs.length
     · exact hi
     · rw[ed6 (by simpa using hi)] at h2;rw[et3] at h2
       split at h2<;>cases h2
   have ha:vs[i]? =some v:=by
     unfold ac1 at h2;rw[ef3 (by simpa using hi),ec1] at h2
     cases e:vs[i]? with
     |none=>rw[e] at h2;cases h2
     |some a=>rw[e] at h2;cases h2;rfl
   obtain ⟨u,hu,rv⟩:=r.get ha
   have hp:ps[i]? =some y:=by
     rw[<-S.pre,eg1 (by omega)];exact h1
   have ndP:ps.Nodup:=by rw[<-S.pre];exact S.nd.sublist (List.take_sublist _ _)
   refine ⟨u,rv,?_⟩
   rcases S.par y (ec4 hp) with k|k
   · exact .inl ⟨k,bk7 ndP hp hu k⟩
   · obtain ⟨c,e⟩:=br2 (n:=s.heap.objs.size+1) k;refine .inr ⟨.inl k,c,e,?_⟩;have q:=x.cell y c e;rw[bk8 ndP hp hu (by show scope.names.lookup y≠_;rw[k];decide)] at q;exact q
 · exact e0.hok.fresh (eh9 (x.above y c (PySem.mem_of_lookup h)))
 · unfold ac1;show _=N.length;rw[ec2,eb8,ei3];omega
theorem df3 {CX:CXT}{P:Program}{w:World}{K:PySem.W.Frag}{mg:Str->Option Value}{base:Heap}{k:Nat}{f:Addr}{name qual:Str}{params:Arguments}{body:List Stmt}{scope:Scope}{dV kV doc pm cdv ct oc:Value}{an od:Option Addr}
   {osl:Array (Option Value)} {N ps:List Str} {sp:Sp} (lk:K.lookup f=some ⟨oc,od,.func (PySem.W.fnOf name qual params body scope dV kV doc pm an cdv ct),osl⟩) (hcd:PySem.W.codeIn K cdv qual=true) (S:m9 N ps scope)
   (len:∀vs H Q E,sp vs H Q E->vs.length=ps.length)
   (hbody:∀(A:Around) (outer:List Env) (s:Shared) (H:Hp) (vs:List V) (Q:VK) (E:XK),m7 k (A.deeper (envOfC qual scope s.heap.objs.size f cdv))->sp vs H Q E->
     ∃t,PSs (ah7 CX P w K mg base N qual scope f cdv A outer s H E) body t/\t {nx:=fun _ H'=>Q .non H',rt:=Q} (ac1 N vs) H):
   n5 P w K mg base CX (k+1) f (PySem.W.fnOf name qual params body scope dV kV doc pm an cdv ct) ps sp:=by
 refine ⟨len,fun A outer s H args us vs Q E hr e0 hb r hsp=> ?_⟩;have hl:=len _ _ _ _ hsp
 have KX:K.In s.heap:=e0.mod.kin.keeps fun b o e=>(e0.bs b o e).1
 have lim:s.heap.NoLimit:=e0.mod.nolimit.keeps fun b o e=>(e0.bs b o e).1
 have hkind:∀y∈ps.zip us,scope.names.lookup y.1=some .local\/(scope.names.lookup y.1=some .cell/\((cellsFrom (s.heap.objs.size+1) scope.names []).lookup y.1).isSome=true):=fun ⟨n,v⟩ hy=>by
   rcases S.par n (et9 hy).1 with q|q
   · exact .inl q
   · exact .inr ⟨q,PySem.W.cellsFrom_some _ _ _ (.inl q)⟩
 refine codeAny_call_function hr.depth (KX _ _ lk) rfl S.co S.gen rfl (PySem.W.codeRec_of KX hcd) (hb _ _ _ _ ?_)
 refine wpAny_newFunctionEnv_cells S.kind hkind fun env he s1 x=> ?_
 subst he;refine ⟨lim.keeps x.toInCall.keep,codeAny_func ?_⟩;obtain ⟨t,ht,hq⟩:=hbody A outer s H vs Q E (hr.deeper _) hsp;have I:i9 (ah7 CX P w K mg base N qual scope f cdv A outer s H E) [] (ac1 N vs) H s1:=cp3 S hr.hd e0 hl r x
 refine wpAny_mono (ht [] s1 (ac1 N vs) H _ I hq) (fun fl s' hs=> ?_) fun e s' hs=>hs
 have fin:∀{σ':St} {H':Hp} {v:V} {u:Value},i9 (ah7 CX P w K mg base N qual scope f cdv A outer s H E) [] σ' H' s'->w4 v u->Q v H'->CE outer P w H s Q u s':=
   fun {σ' H' v u} J rv q=>⟨v,H',J.os,J.bare,J.base,J.hok,rv,q⟩
 cases fl with
 |ret u=>
  obtain ⟨v,σ',H',J,rv,q⟩:=hs;exact fin J rv q
 |next=>
  obtain ⟨σ',H',J,q⟩:=hs;exact fin (v:=V.non) (u:=Value.none) J rfl q
 |brk=>
  obtain ⟨_,_,_,q⟩:=hs;exact False.elim q
 |cont=>
  obtain ⟨_,_,_,q⟩:=hs;exact False.elim q
end L2
namespace L2
open PySem PySem.Spec PyProof.Rows
section
variable {X:Cx} {x:Str} {p pos:Pos} {e:Expr} {es:List Expr} {t:TA} {id T:String} {r:List V->Hp->VK->Prop}
def V9 (r:List V->Hp->VK->Prop)(t:TA):TE:=fun σ H Q=>t σ H fun vs H1=>r vs H1 Q
theorem K7 (hc:K0 X (.builtin id) r)(hg:Gl X x)(hm:X.mg x=none)(hv:bootBuiltins x=some (.builtin id))(ha:PA X (e::es) t)(hn:x≠"__name__":=by decide)(hdb:(x==("__debug__":Str))=false:=by decide)
   (he:starEach (e::es) X.env=(false,eval e X.env)::starEach es X.env:=by rfl) (hpl:(backTo pos (starEach es X.env)).any (·.1)=false:=by rfl):PE X (.Call (.Name x p) (e::es) [] pos) (V9 r t):=by
 intro pins s σ H Q I h;refine wpAny_Call_Name_kw (Q2 I hg hm hv ?_ hn hdb);exact PyProof.Rows.callWith_builtin1 (r6 (ha pos pins s σ H _ I h) fun us s1 ⟨vs,H1,I1,r1,q1⟩=>hc pins s1 σ H1 vs us Q I1 r1 q1) he hpl
theorem W0 (hc:K0 X (.type T) r)(hg:Gl X x)(hm:X.mg x=none)(hv:bootBuiltins x=some (.type T))(ha:PA X (e::es) t)(hn:x≠"__name__":=by decide)(hdb:(x==("__debug__":Str))=false:=by decide)
   (he:starEach (e::es) X.env=(false,eval e X.env)::starEach es X.env:=by rfl) (hpl:(backTo pos (starEach es X.env)).any (·.1)=false:=by rfl):PE X (.Call (.Name x p) (e::es) [] pos) (V9 r t):=by
 intro pins s σ H Q I h;refine wpAny_Call_Name_kw (Q2 I hg hm hv ?_ hn hdb);exact PyProof.Rows.callWith_type1 (r6 (ha pos pins s σ H _ I h) fun us s1 ⟨vs,H1,I1,r1,q1⟩=>hc pins s1 σ H1 vs us Q I1 r1 q1) he hpl
end
end L2
namespace HT
open PySem PyProof.Rows
section
variable {prog:Program} {w:World} {A:Around} {E:Value->Shared->Prop} {s:Shared}
def sIx (n d:Nat):Option Int->Nat
 |none=>d
 |some v=>if v < 0 then (v+(n:Int)).toNat else min v.toNat n
theorem dy7 (n d:Nat):sIx n d none=d:=rfl
theorem ea7 (n d k:Nat):sIx n d (some (k:Int))=min k n:=by
 show (if (k:Int) < 0 then ((k:Int)+(n:Int)).toNat else min (k:Int).toNat n)=min k n;rw[if_neg (by omega),ed7]
end
end HT
namespace L2
open PySem PySem.Spec PyProof.Rows
abbrev TO:=St->Hp->(Option Int->Hp->Prop)->Prop
def PO (X:Cx)(e:Option Expr)(t:TO):Prop:=
 ∀(pins:List (Addr×Obj)) (s:Shared) (σ:St) (H:Hp) (Q:Option Int->Hp->Prop),i9 X pins σ H s->t σ H Q->
  wpAny (model X.prog X.w) X.A (evalPart e X.env) (fun u s'=>∃o H',i9 X pins σ H' s'/\IsPart u o/\Q o H') X.xe s
def dh9:TO:=fun _ H Q=>Q none H
def dt8 (t:TE):TO:=fun σ H Q=>t σ H fun x H1=>∃i,x= .int i/\Q (some i) H1
theorem ac2 {ns:List Int}:∀{us:List Value},o8 (ns.map V.int) us->IntsAre us ns:=by
 induction ns with
 |nil=>intro us r;rw[eo9] at r;cases r;exact .nil
 |cons n ns ih=>
  intro us r;rw[eg2] at r
  cases r with
  |cons r1 r2=>
   obtain ⟨t,e⟩:=r1;subst e;exact .cons n t (ih r2)
section
variable {X:Cx} {e:Expr} {te:TE} {lo hi:Option Expr} {tl th:TO} {pos p2:Pos}
theorem ce5:PO X none dh9:=by
 intro pins s σ H Q I h;rw[evalPart_none];exact wpAny_pure ⟨none,H,I,.none,h⟩
theorem W1 (h:PE X e te):PO X (some e) (dt8 te):=by
 intro pins s σ H Q I hw;rw[evalPart_some]
 refine r6 (h pins s σ H _ I hw) fun u s1 ⟨x,H1,I1,r1,q1⟩=> ?_
 obtain ⟨i,rfl,q⟩:=q1;obtain ⟨t,rfl⟩:=r1;exact ⟨some i,H1,I1,.int i t,q⟩
def SlR (X:Cx)(r:V->Option Int->Option Int->Hp->VK->Prop):Prop:=
 ∀(pins:List (Addr×Obj)) (s:Shared) (σ:St) (H:Hp) (x:V) (v vl vu:Value) (lo hi:Option Int) (sl:Addr) (Q:VK),i9 X pins σ H s->w4 x v->s.heap.IsSliceOf sl vl vu .none->IsPart vl lo->IsPart vu hi->r x lo hi H Q->
  ∃T id,typeLookup (.type T) "__getitem__"=pure (some (.builtin id))/\s.TypeIs v T/\wpAny (model X.prog X.w) X.A (getItem v (.ref sl)) (EP X pins σ Q) X.xe s
def tSl (r:V->Option Int->Option Int->Hp->VK->Prop)(te:TE)(tl th:TO):TE:=fun σ H Q=>te σ H fun x H1=>tl σ H1 fun l H2=>th σ H2 fun u H3=>r x l u H3 Q
theorem al6 {r:V->Option Int->Option Int->Hp->VK->Prop}(hr:SlR X r)(he:PE X e te)(hl:PO X lo tl)(hu:PO X hi th):PE X (.Subscript e (.Slice lo hi none p2) pos) (tSl r te tl th):=by
 intro pins s σ H Q I h;refine Subscript_ (r6 (he pins s σ H _ I h) fun v s1 ⟨x,H1,I1,r1,q1⟩=> ?_);refine wpAny_Slice (r6 (hl pins s1 σ H1 _ I1 q1) fun vl s2 ⟨l,H2,I2,pl,q2⟩=>r6 (hu pins s2 σ H2 _ I2 q2) fun vu s3 ⟨u,H3,I3,pu,q3⟩=> ?_);rw[evalPart_none];refine wpAny_pure ?_
 have I4:i9 X pins σ H3 {s3 with heap:=s3.heap.push {cls:= .type "slice",data:= .fields #[vl,vu,.none]}}:=I3.kept (t':=s3.toks) fun b ob q=>Heap.get?_push_of_some _ q
 obtain ⟨T,id,hT,ht,hg⟩:=hr pins {s3 with heap:=s3.heap.push {cls:= .type "slice",data:= .fields #[vl,vu,.none]}} σ H3 x v vl vu l u s3.heap.objs.size Q I4 r1 (Heap.IsSliceOf.new ..) pl pu q3;show wpAny (model X.prog X.w) X.A (subscriptTail e (.Slice lo hi none p2) v (.ref s3.heap.objs.size)) (EP X pins σ Q) X.xe {s3 with heap:=s3.heap.push {cls:= .type "slice",data:= .fields #[vl,vu,.none]}};exact tail_any (ops:=[.ref s3.heap.objs.size,v]) ht hT hg (by with_unfolding_all rfl)
def ad7 (xs:List V)(lo hi:Option Int):List V:=(xs.drop (HT.sIx xs.length 0 lo)).take (HT.sIx xs.length xs.length hi - HT.sIx xs.length 0 lo)
theorem ca8 (xs:List V)(lo hi:Option Int):(ad7 xs lo hi).length<=xs.length:=by
 unfold ad7;rw[ed3,ei0];omega
end
end L2
namespace L2
open PySem PySem.Spec PyProof.Rows
def U1 (n:Nat)(i:Int):Option Nat:=if 0<=i then (if i < n then some i.toNat else none) else if -(n:Int)<=i then some (i+n).toNat else none
def Y2 {α:Type}(xs:List α)(i:Int):Option α:=(U1 xs.length i).bind fun j=>xs[j]?
theorem au4 {n:Nat}{i:Int}{j:Nat}(h:U1 n i=some j):seqIndex? i n=some j/\j < n/\ -(n:Int)<=i/\i < n:=by
 unfold U1 at h
 by_cases h0:0<=i
 · rw[if_pos h0] at h
   by_cases h1:i < n
   · rw[if_pos h1] at h;have e:i.toNat=j:=Option.some.inj h;exact ⟨by rw[seqIndex_of h0 h1,e],by omega,by omega,h1⟩
   · rw[if_neg h1] at h;cases h
 · rw[if_neg h0] at h
   by_cases h1: -(n:Int)<=i
   · rw[if_pos h1] at h;have e:(i+n).toNat=j:=Option.some.inj h;exact ⟨by rw[seqIndex_neg (by omega) h1,e],by omega,h1,by omega⟩
   · rw[if_neg h1] at h;cases h
theorem ce6 {α:Type}{xs:List α}{i:Int}{v:α}(h:Y2 xs i=some v):∃j,seqIndex? i xs.length=some j/\xs[j]? =some v/\j < xs.length/\ -(xs.length:Int)<=i/\i < xs.length:=by
 unfold Y2 at h
 cases e:U1 xs.length i with
 |none=>rw[e] at h;cases h
 |some j=>
  rw[e] at h;obtain ⟨h1,h2,h3,h4⟩:=au4 e;exact ⟨j,h1,h,h2,h3,h4⟩
theorem o9 {α:Type}{xs:List α}{j:Nat}{v:α}(h:xs[j]? =some v):Y2 xs (j:Int)=some v:=by
 have hj:j < xs.length:=(ec0.mp h).1
 have e:U1 xs.length (j:Int)=some j:=by
   unfold U1;rw[if_pos (by omega),if_pos (by omega)];simp
 unfold Y2;rw[e];exact h
def di0 (b:Expr):Prop:=∀o i,subscripted b false o i=operate [o,i] (getItem o i)
def IxR (X:Cx)(r:R2):Prop:=
 ∀(value slice:Expr) (pins:List (Addr×Obj)) (s:Shared) (σ:St) (H:Hp) (x y:V) (v u:Value) (Q:VK),i9 X pins σ H s->w4 x v->w4 y u->r x y H Q->
  subscripted slice false v u=operate [v,u] (getItem v u)->wpAny (model X.prog X.w) X.A (subscriptTail value slice v u) (EP X pins σ Q) X.xe s
def MtR (X:Cx)(id:String)(r:V->List V->Hp->VK->Prop):Prop:=
 ∀(pins:List (Addr×Obj)) (s:Shared) (σ:St) (H:Hp) (x:V) (xs:List V) (v:Value) (us:List Value) (Q:VK),i9 X pins σ H s->w4 x v->o8 xs us->r x xs H Q->
  wpAny (model X.prog X.w) X.A (call (.builtin id) (v::us)) (EP X pins σ Q) X.xe s
section
variable {X:Cx} {a b:Expr} {ta tb:TE} {pos:Pos}
theorem p8 {r:R2}(hr:IxR X r)(ha:PE X a ta)(hb:PE X b tb)(hs:di0 b):PE X (.Subscript a b pos) (tOp r ta tb):=by
 intro pins s σ H Q I h;exact Subscript_ (ci8 ha hb I h fun v u s2 x y H2 I2 rx ry q=>hr a b pins s2 σ H2 x y v u Q I2 rx ry q (hs _ _))
def br3 (K:PySem.W.Frag):R2:=fun x y H Q=>∃p xs i v,x= .ref p/\y= .int i/\i5 K H p xs/\Y2 xs i=some v/\Q v H
def dy8 (K:PySem.W.Frag):R2:=fun x y H Q=>∃p xs i v,x= .ref p/\y= .int i/\M6 K H p xs/\Y2 xs i=some v/\Q v H
theorem o0:IxR X (br3 X.K):=by
 intro value slice pins s σ H x y v u Q I rx ry h hs;obtain ⟨p,xs,i,z,rfl,rfl,hq,he,q⟩:=h;cases rx;obtain ⟨t,rfl⟩:=ry;obtain ⟨its,r,pl,hz⟩:=I.list hq;obtain ⟨j,h1,h2,h3,h4,h5⟩:=ce6 he;obtain ⟨w,ew,rw'⟩:=r.get h2;have hl:=r.length;have hn:=aq9;have fin:EP X pins σ Q w s:=⟨z,H,I,rw',q⟩
 by_cases h0:0<=i
 · have hj:i.toNat=j:=by
     rw[seqIndex_of h0 h5] at h1;exact Option.some.inj h1
   exact item_listR pl.isList h0 (by omega) (by rw[hj];simpa using ew) fin hs
 · have hj:(i+(its.toArray.size:Int)).toNat=j:=by
     rw[seqIndex_neg (by omega) h4] at h1;rw[ec7,<-hl];exact Option.some.inj h1
   exact subscriptTail_builtinR (x:=w) pl.isList.typeIs slot_list_getitem.lookup
     (wpAny_getItem_list_neg (Q:=fun r s'=>r=w/\EP X pins σ Q r s') pl.isList (by omega) (by rw[ec7]<;>omega) (by omega) (by rw[hj];simpa using ew) ⟨rfl,fin⟩) hs
theorem U2:IxR X (dy8 X.K):=by
 intro value slice pins s σ H x y v u Q I rx ry h hs;obtain ⟨p,xs,i,z,rfl,rfl,hq,he,q⟩:=h;cases rx;obtain ⟨t,rfl⟩:=ry;obtain ⟨its,r,pl,hz⟩:=I.tuple hq;obtain ⟨j,h1,h2,h3,h4,h5⟩:=ce6 he;obtain ⟨w,ew,rw'⟩:=r.get h2;have hl:=r.length;have hn:=aq9;have fin:EP X pins σ Q w s:=⟨z,H,I,rw',q⟩
 exact subscriptTail_builtinR (x:=w) pl.typeIs slot_tuple_getitem.lookup
   (getItem_tuple (j:=j) (Q:=fun r s'=>r=w/\EP X pins σ Q r s') pl (by omega) (by omega) (by rw[ec7,<-hl];exact h1) (by simpa using ew) ⟨rfl,fin⟩) hs
theorem cj8 (its:List Value)(n j:Nat)(u:Value):Obj.mapSeq (·.setIfInBounds j u) {cls:= .type "list",data:= .seq its.toArray n}={cls:= .type "list",data:= .seq (its.set j u).toArray n}:=by
 simp [Obj.mapSeq]
theorem i9.lst {pins:List (Addr×Obj)}{σ:St}{H:Hp}{s:Shared}{p:Addr}{xs:List V}(I:i9 X pins σ H s)(h:H p=some (.lst xs)):
   ∃(its:List Value) (n:Nat),o8 xs its/\s.heap.get? p=some {cls:= .type "list",data:= .seq its.toArray n}/\xs.length<=sizeLine:=by
 obtain ⟨z,its,n,r,e⟩:=I.hok p _ h;exact ⟨its,n,r,e,z⟩
theorem i9.lstUpd {pins:List (Addr×Obj)}{σ:St}{H:Hp}{s:Shared}{p:Addr}{xs ys:List V}{its its':List Value}{n n':Nat}{f:Obj->Obj}(I:i9 X pins σ H s)(h:H p=some (.lst xs))
   (ho:s.heap.get? p=some {cls:= .type "list",data:= .seq its.toArray n}) (hf:f {cls:= .type "list",data:= .seq its.toArray n}={cls:= .type "list",data:= .seq its'.toArray n'}) (r:o8 ys its') (hz:ys.length<=sizeLine) (t:Nat):
   i9 X pins σ (i8 H p (.lst ys)) {s with heap:=s.heap.update p f,toks:=t}:=by
 have e:(s.heap.update p f).get? p=some {cls:= .type "list",data:= .seq its'.toArray n'}:=by
   rw[Heap.get?_update_self f ho (by rw[hf]<;>rfl),hf]
 refine I.write (x:=p) (e:=p) (by rw[h];trivial) (.inl rfl) (fun b u hb q=>(Heap.get?_update_other _ _ (Ne.symm hb)).trans q) ⟨_,e⟩ ?_;exact ⟨hz,its',n',r,e⟩
def dt9:V->V->V->Hp->(Hp->Prop)->Prop:=fun o i v H Q=>∃p xs k j,o= .ref p/\i= .int k/\H p=some (.lst xs)/\U1 xs.length k=some j/\Q (i8 H p (.lst (xs.set j v)))
theorem V3:dn4 X dt9:=by
 intro pins s σ H o i v ov iv u Q I ro ri rv h;obtain ⟨p,xs,k,j,rfl,rfl,hp,hj,q⟩:=h;cases ro;obtain ⟨t,rfl⟩:=ri;obtain ⟨its,n,r,ho,hz⟩:=I.lst hp;obtain ⟨h1,h2,h3,h4⟩:=au4 hj;have hl:=r.length;have hn:=aq9
 have I':i9 X pins σ (i8 H p (.lst (xs.set j v))) {s with heap:=s.heap.update p (Obj.mapSeq (·.setIfInBounds j u))}:=
   I.lstUpd hp ho (cj8 its n j u) (r.set rv j) (by rw[el1];exact hz) s.toks
 by_cases h0:0<=k
 · have hk:k.toNat=j:=by
     rw[seqIndex_of h0 h4] at h1;exact Option.some.inj h1
   exact PySem.W.ki_setAt ho h0 (by omega) (by rw[ec7,<-hl];exact h4) (by rw[hk];exact ⟨_,I',q⟩)
 · have hk:(k+(its.toArray.size:Int)).toNat=j:=by
     rw[seqIndex_neg (by omega) h3] at h1;rw[ec7,<-hl];exact Option.some.inj h1
   exact PySem.W.ki_setBack ho (by omega) (by rw[ec7,<-hl];exact h3) (by omega) (by rw[hk];exact ⟨_,I',q⟩)
theorem br4 (lo hi:Option Int)(n:Nat):(sliceBounds lo hi none n).1=((HT.sIx n 0 lo:Nat):Int)/\(sliceBounds lo hi none n).2.1=((HT.sIx n n hi:Nat):Int)/\(sliceBounds lo hi none n).2.2=1:=by
 refine ⟨?_,?_,rfl⟩
 · cases lo with
   |none=>simp [sliceBounds,HT.sIx]
   |some i=>
    simp only[sliceBounds,HT.sIx,Option.getD_none,show (1:Int) > 0 by decide,if_true]
    by_cases h:i < 0
    · simp only[h,if_true]<;>omega
    · simp only[h,if_false]<;>omega
 · cases hi with
   |none=>simp [sliceBounds,HT.sIx]
   |some i=>
    simp only[sliceBounds,HT.sIx,Option.getD_none,show (1:Int) > 0 by decide,if_true]
    by_cases h:i < 0
    · simp only[h,if_true]<;>omega
    · simp only[h,if_false]<;>omega
theorem bo1 (its:List Value)(lo hi:Option Int):slicePick its.toArray lo hi none=((its.drop (HT.sIx its.length 0 lo)).take (HT.sIx its.length its.length hi - HT.sIx its.length 0 lo)).toArray:=by
 obtain ⟨h1,h2,h3⟩:=br4 lo hi its.toArray.size;unfold slicePick;rw[h1,h2,h3]
 simp only[sliceRange_one,pick_run,ec7]<;>rfl
def dy9 (K:PySem.W.Frag):V->Option Int->Option Int->Hp->VK->Prop:=fun x lo hi H Q=>∃a xs,x= .ref a/\i5 K H a xs/\∀p,H p=none->Q (.ref p) (i8 H p (.lst (ad7 xs lo hi)))
theorem bg3:SlR X (dy9 X.K):=by
 intro pins s σ H x v vl vu lo hi sl Q I rx hs pl pu h;obtain ⟨a,xs,rfl,hx,q⟩:=h;cases rx;obtain ⟨its,r,ht,hz⟩:=I.list hx;have hlen:=r.length;refine ⟨"list",_,slot_list_getitem.lookup,ht.isList.typeIs,?_⟩;refine wpAny_getItem_list_slice ht.isList hs pl pu .none (by simp) ?_ (by rw[ec7]<;>omega);rw[bo1,<-hlen];refine ⟨.ref s.heap.objs.size,_,I.laid (t':=s.toks) (o:= .lst (ad7 xs lo hi)) (fun b ob q=>Heap.get?_push_of_some _ q) (ec6 _) ?_,rfl,q _ (I.hok.fresh (ec6 _))⟩;exact ⟨ee0 (ca8 xs lo hi) hz,_,0,(r.drop (HT.sIx xs.length 0 lo)).take (HT.sIx xs.length xs.length hi - HT.sIx xs.length 0 lo),Heap.get?_push_size _ rfl⟩
def P6:V->Bool
 | .non=>true
 | .bl _=>true
 | .int _=>true
 | .str _=>true
 |_=>false
def eqV:V->V->Bool
 | .non,.non=>true
 | .bl a,.bl b=>a==b
 | .bl a,.int b=>(if a then 1 else 0)==b
 | .int a,.bl b=>a==(if b then 1 else 0)
 | .int a,.int b=>a==b
 | .str a,.str b=>a==b
 |_,_=>false
theorem cp4 {A:Around}{s:Shared}{y x:V}{u v:Value}(ry:w4 y u)(rx:w4 x v)(fy:P6 y=true)(fx:P6 x=true):SeqAt.EqAt A s u v (eqV y x):=by
 cases y with
 |non=>
  cases ry
  cases x with
  |non=>cases rx;exact SeqAt.EqAt.same _
  |bl b=>cases rx;exact SeqAt.EqAt.none_bool b
  |int b=>obtain ⟨t,rfl⟩:=rx;exact SeqAt.EqAt.none_int b t
  |str b=>obtain ⟨t,rfl⟩:=rx;exact SeqAt.EqAt.none_str b t
  |_=>exact absurd (show false=true from fx) ed9
 |bl a=>
  cases ry
  cases x with
  |non=>cases rx;exact SeqAt.EqAt.bool_none a
  |bl b=>cases rx;exact SeqAt.EqAt.bool_bool a b
  |int b=>obtain ⟨t,rfl⟩:=rx;exact SeqAt.EqAt.bool_int a b t
  |str b=>obtain ⟨t,rfl⟩:=rx;exact SeqAt.EqAt.bool_str a b t
  |_=>exact absurd (show false=true from fx) ed9
 |int a=>
  obtain ⟨t',rfl⟩:=ry
  cases x with
  |non=>cases rx;exact SeqAt.EqAt.int_none a t'
  |bl b=>cases rx;exact SeqAt.EqAt.int_bool a t' b
  |int b=>obtain ⟨t,rfl⟩:=rx;exact SeqAt.EqAt.int_int a t' b t
  |str b=>obtain ⟨t,rfl⟩:=rx;exact SeqAt.EqAt.int_str a t' b t
  |_=>exact absurd (show false=true from fx) ed9
 |str a=>
  obtain ⟨t',rfl⟩:=ry
  cases x with
  |non=>cases rx;exact SeqAt.EqAt.str_none a t'
  |bl b=>cases rx;exact SeqAt.EqAt.str_bool a t' b
  |int b=>obtain ⟨t,rfl⟩:=rx;exact SeqAt.EqAt.str_int a t' b t
  |str b=>obtain ⟨t,rfl⟩:=rx;exact SeqAt.EqAt.str_str a t' b t
  |_=>exact absurd (show false=true from fx) ed9
 |_=>exact absurd (show false=true from fy) ed9
def eqU (x:V)(u:Value):Bool:=match u with
 | .none=>eqV .non x
 | .bool b=>eqV (.bl b) x
 | .int i _=>eqV (.int i) x
 | .str z _=>eqV (.str z) x
 |_=>false
theorem bb7 {x y:V}{u:Value}(r:w4 y u)(f:P6 y=true):eqU x u=eqV y x:=by
 cases y with
 |non=>cases r;rfl
 |bl b=>cases r;rfl
 |int i=>obtain ⟨t,rfl⟩:=r;rfl
 |str z=>obtain ⟨t,rfl⟩:=r;rfl
 |_=>exact absurd (show false=true from f) ed9
theorem al7 {A:Around}{s:Shared}{x:V}{v:Value}(rx:w4 x v)(fx:P6 x=true):∀{xs:List V} {us:List Value},o8 xs us->xs.all P6=true->∀u∈us,SeqAt.EqAt A s u v (eqU x u)
 |_,_,.nil,_=>fun u hu=>by cases hu
 |y::xs,u::us,.cons r t,f=>fun u' hu=>by
  rw[List.all_cons,ef7] at f
  rcases ec8.mp hu with rfl|hu
  · rw[bb7 r f.1];exact cp4 r rx f.1 fx
  · exact al7 rx fx t f.2 u' hu
theorem br5:K0 X (.builtin "len") (fun xs H Q=>∃p ys,xs=[.ref p]/\(i5 X.K H p ys\/M6 X.K H p ys)/\Q (.int ys.length) H):=by
 intro pins s σ H xs us Q I r h;obtain ⟨p,ys,rfl,hq,q⟩:=h;obtain ⟨u,rfl,rx⟩:=M9 r;cases rx;have hn:=aq9
 rcases hq with hq|hq
 · obtain ⟨its,r',pl,hz⟩:=I.list hq;have hlen:=r'.length;exact Calls.call_len_list pl.isList (by simp only[ec7]<;>omega) ⟨.int ys.length,H,I.tok _,⟨s.toks+1,by rw[ec7,hlen]⟩,q⟩
 · obtain ⟨its,r',pl,hz⟩:=I.tuple hq;have hlen:=r'.length;exact len_tuple pl (by simp only[ec7]<;>omega) ⟨.int ys.length,H,I.tok _,⟨s.toks+1,by rw[ec7,hlen]⟩,q⟩
theorem br6:K0 X (.builtin "len") (fun xs H Q=>∃z,xs=[.str z]/\z.length<=sizeLine/\Q (.int z.length) H):=by
 intro pins s σ H xs us Q I r h;obtain ⟨z,rfl,hz,q⟩:=h;obtain ⟨u,rfl,t,rfl⟩:=M9 r;have hn:=aq9;exact len_str (by omega) ⟨.int z.length,H,I.tok _,⟨_,rfl⟩,q⟩
theorem br7:K0 X (.type "list") (fun xs H Q=>∃p ys,xs=[.ref p]/\(i5 X.K H p ys\/M6 X.K H p ys)/\∀l,H l=none->Q (.ref l) (i8 H l (.lst ys))):=by
 intro pins s σ H xs us Q I r h;obtain ⟨p,ys,rfl,hq,q⟩:=h;obtain ⟨u,rfl,rx⟩:=M9 r;cases rx
 have fin:∀(its:List Value),o8 ys its->ys.length<=sizeLine->∀(h':Heap) (c':Nat),(∀b o',s.heap.get? b=some o'->h'.get? b=some o')->
     h'.get? s.heap.objs.size=some {cls:= .type "list",dict:=none,data:= .seq its.toArray c',slots:= #[]}->EP X pins σ Q (.ref s.heap.objs.size) {s with heap:=h'}:=fun its r' hz h' c' kp e=>
   ⟨.ref s.heap.objs.size,_,I.laid (t':=s.toks) kp (ec6 _) (show A5 X.prog X.w _ h' _ (.lst ys) from ⟨hz,its,c',r',e⟩),rfl,q _ (I.hok.fresh (ec6 _))⟩
 rcases hq with hq|hq
 · obtain ⟨its,r',pl,hz⟩:=I.list hq;have hlen:=r'.length;obtain ⟨o,ho,hc,n,hd⟩:=pl.isList;exact call_list_seq p (.inl rfl) ho hc hd (fun h' c' kp e=>fin its r' hz h' c' kp e) (by simp only[ec7]<;>omega)
 · obtain ⟨its,r',pl,hz⟩:=I.tuple hq;have hlen:=r'.length;obtain ⟨o,ho,hc,n,hd⟩:=pl;exact call_list_seq p (.inr rfl) ho hc hd (fun h' c' kp e=>fin its r' hz h' c' kp e) (by simp only[ec7]<;>omega)
def tyV (K:PySem.W.Frag)(T:String)(x:V)(H:Hp):Prop:=match x with
 | .str _=>T="str"
 | .int _=>T="int"
 | .ref p=>(T="list"/\∃xs,i5 K H p xs)\/(T="tuple"/\∃o,K.lookup p=some o/\o.cls= .type "tuple"/\o.dict=none)\/
     (T="dict"/\((∃kvs,H p=some (.dK kvs))\/∃kvs,H p=some (.dT kvs)))\/(T="set"/\∃S n,H p=some (.set S n))
 |_=>False
theorem cp5 {pins:List (Addr×Obj)}{σ:St}{H:Hp}{s:Shared}{T:String}{x:V}{v:Value}(I:i9 X pins σ H s)(r:w4 x v)(ty:tyV X.K T x H):
   s.TypeIs v T/\∀a,v= .ref a->∃ob,s.heap.get? a=some ob/\ob.dict=none:=by
 cases x with
 |str z=>
  obtain ⟨t,rfl⟩:=r;cases (show T="str" from ty);exact ⟨typeIs_str s z t,fun _ e=>nomatch e⟩
 |int i=>
  obtain ⟨t,rfl⟩:=r;cases (show T="int" from ty);exact ⟨typeIs_int s i t,fun _ e=>nomatch e⟩
 |ref p=>
  cases r
  rcases ty with ⟨rfl,xs,hq⟩|⟨rfl,o,hk,hc,hd⟩|⟨rfl,hk⟩|⟨rfl,S,n,hk⟩
  · obtain ⟨its,_,pl,_⟩:=I.list hq;refine ⟨pl.isList.typeIs,fun a e=> ?_⟩;cases e;obtain ⟨o,n,e,c,hd,_⟩:=pl;exact ⟨o,e,hd⟩
  · refine ⟨⟨o,I.kIn p o hk,hc⟩,fun a e=> ?_⟩;cases e;exact ⟨o,I.kIn _ o hk,hd⟩
  · have z:∃o,s.heap.get? p=some o/\o.ExactDict:=by
      rcases hk with ⟨kvs,hk⟩|⟨kvs,hk⟩
      · obtain ⟨_,_,_,_,o,_,_,e,ex,_⟩:=I.hok p _ hk;exact ⟨o,e,ex⟩
      · obtain ⟨_,_,_,_,o,_,_,e,ex,_⟩:=I.hok p _ hk;exact ⟨o,e,ex⟩
    obtain ⟨o,e,ex⟩:=z;refine ⟨⟨o,e,ex.1⟩,fun a e2=> ?_⟩;cases e2;exact ⟨o,e,ex.2.1⟩
  · obtain ⟨o,_,_,_,e,ex,_⟩:=I.hok p _ hk;refine ⟨⟨o,e,ex.1⟩,fun a e2=> ?_⟩;cases e2;exact ⟨o,e,ex.2.1⟩
 |_=>exact False.elim ty
def do7 (K:PySem.W.Frag)(T:String)(r:V->List V->Hp->VK->Prop)(to:TE):TE:=fun σ H Q=>to σ H fun x H1=>tyV K T x H1/\r x [] H1 Q
def tBM (K:PySem.W.Frag)(T:String)(r:V->List V->Hp->VK->Prop)(to:TE)(t:TA):TE:=fun σ H Q=>to σ H fun x H1=>tyV K T x H1/\t σ H1 fun xs H2=>r x xs H2 Q
variable {o e:Expr} {es:List Expr} {to:TE} {t:TA} {name:Str} {apos cpos:Pos} {T id:String} {r:V->List V->Hp->VK->Prop}
theorem do8 (pa:PlainAttrs T)(slot:Slot T name id)(hty:typeOf (.builtin id)=pure (.type "method_descriptor"))(hm:MtR X id r)(ho:PE X o to)
   (hbase:attributeBase o name X.env (eval o X.env)=eval o X.env:=by rfl) (hline:(apos.endLine==cpos.line)=true:=by rfl):PE X (.Call (.Attribute o name apos) [] [] cpos) (do7 X.K T r to):=by
 intro pins s σ H Q I h;refine wpAny_Call_method0_late hbase hline (r6 (ho pins s σ H _ I h) fun v s1 ⟨x,H1,I1,r1,ty,q1⟩=> ?_);obtain ⟨h1,h2⟩:=cp5 I1 r1 ty;exact ⟨T,id,pa,slot,hty,h1,h2,Calls.callWith_builtin rfl (PySem.evalArgs_none (hm pins s1 σ H1 x [] v [] Q I1 r1 .nil q1))⟩
theorem W8 (pa:PlainAttrs T)(slot:Slot T name id)(hty:typeOf (.builtin id)=pure (.type "method_descriptor"))(hm:MtR X id r)(ho:PE X o to)(ha:PA X (e::es) t)
   (hbase:attributeBase o name X.env (eval o X.env)=eval o X.env:=by rfl)
   (hfew:((backTo cpos (starEach (e::es) X.env)).all (fun x=> !x.1)&&(backToKw cpos (keywordEach [] X.env)).all (fun x=>x.1.isSome)
     &&decide ((e::es).length+([]:List Keyword).length+(if ([]:List Keyword).isEmpty then 0 else 1) < 30))=true:=by rfl)
   (hline:(apos.endLine==cpos.line)=true:=by rfl) (hs:starEach (e::es) X.env=(false,eval e X.env)::starEach es X.env:=by rfl) (hplain:(backTo cpos (starEach es X.env)).any (·.1)=false:=by rfl):
   PE X (.Call (.Attribute o name apos) (e::es) [] cpos) (tBM X.K T r to t):=by
 intro pins s σ H Q I h;refine wpAny_Call_method_late hbase hfew hline rfl (r6 (ho pins s σ H _ I h) fun v s1 ⟨x,H1,I1,r1,ty,q1⟩=> ?_);obtain ⟨h1,h2⟩:=cp5 I1 r1 ty;refine ⟨T,id,pa,slot,hty,h1,h2,?_⟩;have hA:=ha cpos pins s1 σ H1 _ I1 q1;rw[hs] at hA ⊢;refine Calls.callWith_builtin (by show (false||(backTo cpos (starEach es X.env)).any (·.1))=false;rw[hplain]<;>rfl) (Calls.evalArgs_plain ?_)
 exact r6 hA fun us s2 ⟨vs,H2,I2,r2,q2⟩=>hm pins s2 σ H2 x vs v us Q I2 r1 r2 q2
end
end L2
namespace L2
open PySem PySem.Spec PyProof.Rows
def MtM (X:Cx)(id:String)(r:V->List V->Hp->VK->Prop):Prop:=
 ∀(pins:List (Addr×Obj)) (s:Shared) (σ:St) (H:Hp) (x:V) (xs:List V) (v:Value) (us:List Value) (Q:VK),i9 X pins σ H s->w4 x v->o8 xs us->r x xs H Q->
  wpAny (model X.prog X.w) X.A (call (.builtin id) (v::us)) (EP X pins σ Q) X.xe s
theorem o8.one:∀{x:V} {us:List Value},o8 [x] us->∃u,us=[u]/\w4 x u
 |_,_,.cons r .nil=>⟨_,rfl,r⟩
theorem o8.zero:∀{us:List Value},o8 [] us->us=[]
 |_,.nil=>rfl
theorem o8.dropLast {xs:List V}{us:List Value}(h:o8 xs us):o8 xs.dropLast us.dropLast:=by
 induction h with
 |nil=>exact .nil
 |cons r t ih=>
  cases t with
  |nil=>exact .nil
  |cons q t'=>exact .cons r ih
theorem o8.eraseIdx:∀{xs:List V} {us:List Value} (i:Nat),o8 xs us->o8 (xs.eraseIdx i) (us.eraseIdx i)
 |_,_,_,.nil=> .nil
 |_,_,0,.cons _ t=>t
 |_,_,i+1,.cons r t=> .cons r (o8.eraseIdx i t)
theorem o8.reverse {xs:List V}{us:List Value}(h:o8 xs us):o8 xs.reverse us.reverse:=by
 induction h with
 |nil=>exact .nil
 |cons r t ih=>rw[List.reverse_cons,List.reverse_cons];exact o8.append ih (.cons r .nil)
theorem o8.rep {xs:List V}{us:List Value}(h:o8 xs us):∀k:Nat,o8 (ed1 k xs).flatten (ed1 k us).flatten
 |0=> .nil
 |k+1=>by
  rw[ej2,ej2,ee8,ee8];exact o8.append h (o8.rep h k)
theorem cj9 {α:Type}(l:List α):l.eraseIdx (l.length - 1)=l.dropLast:=by
 induction l with
 |nil=>rfl
 |cons a r ih=>
  cases r with
  |nil=>rfl
  |cons b r=>
   have e:(a::b::r).length - 1=((b::r).length - 1)+1:=by
     have h1:(a::b::r).length=r.length+2:=rfl;have h2:(b::r).length=r.length+1:=rfl;omega
   rw[e,List.eraseIdx_cons_succ,ih]
   all_goals rfl
theorem bl0 {α:Type}:∀(l:List α) (i:Nat),(l.eraseIdx i).length<=l.length
 |[],_=>ec6 _
 |_::_,0=>ek2 _
 |_::r,i+1=>Nat.succ_le_succ (bl0 r i)
theorem bl3 (its:List Value):∀(k:Nat) (acc:List Value),
   List.foldl (fun x1 x2=>x1++x2) acc.toArray (ed1 k its.toArray)=(acc++(ed1 k its).flatten).toArray
 |0,acc=>by simp
 |k+1,acc=>by
  have e:acc.toArray++its.toArray=(acc++its).toArray:=by simp
  have e2:(acc++its)++(ed1 k its).flatten=acc++(ed1 (k+1) its).flatten:=by
    rw[ej2,ee8,ee7]
  rw[<-e2,<-bl3 its k (acc++its),<-e,ej2,List.foldl_cons]
section
variable {X:Cx} {pins:List (Addr×Obj)} {σ:St} {H:Hp} {s:Shared} {l b:Addr} {xs ys zs:List V}
theorem i9.lset {its its':List Value}{n:Nat}{f:Array Value->Array Value}{t':Nat}(I:i9 X pins σ H s)(hH:H l=some (.lst xs))
   (e:s.heap.get? l=some {cls:= .type "list",data:= .seq its.toArray n}) (hf:f its.toArray=its'.toArray) (hv:o8 ys its') (hz:ys.length<=sizeLine):
   i9 X pins σ (i8 H l (.lst ys)) {s with heap:=s.heap.update l (Obj.mapSeq f),toks:=t'}:=by
 have q:=PySem.IsL.update e f;rw[hf] at q;refine I.write (x:=l) (e:=l) (by rw[hH];exact trivial) (.inl rfl) (fun b' u hb hu=>(Heap.get?_update_other s.heap (Obj.mapSeq f) (Ne.symm hb)).trans hu) ⟨_,q⟩ ?_;exact ⟨hz,its',_,hv,q⟩
theorem i9.lnew {its:List Value}{t':Nat}(I:i9 X pins σ H s)(hv:o8 ys its)(hz:ys.length<=sizeLine):
   i9 X pins σ (i8 H s.heap.objs.size (.lst ys)) {s with heap:=s.heap.push {cls:= .type "list",data:= .seq its.toArray},toks:=t'}:=
 I.laid (fun _ _ q=>Heap.get?_push_of_some _ q) (ec6 _) ⟨hz,its,0,hv,Heap.get?_push_size _ rfl⟩
theorem i9.fresh (I:i9 X pins σ H s):H s.heap.objs.size=none:=I.hok.fresh (ec6 _)
theorem i9.lstM (I:i9 X pins σ H s)(hH:H l=some (.lst xs)):xs.length<=sizeLine/\∃(its:List Value) (n:Nat),o8 xs its/\xs.length=its.length/\s.heap.get? l=some {cls:= .type "list",data:= .seq its.toArray n}:=by
 obtain ⟨z,its,n,r,e⟩:=I.hok l _ hH;exact ⟨z,its,n,r,r.length,e⟩
theorem br8 {n:Nat}(h:n<=sizeLine):Builtin.List.listTooLong n=false:=by
 unfold Builtin.List.listTooLong;exact decide_eq_false (by omega)
end
section
variable {X:Cx}
def ce8:V->List V->Hp->VK->Prop:=fun x vs H Q=>∃l xs y,x= .ref l/\vs=[y]/\H l=some (.lst xs)/\xs.length < sizeLine/\Q .non (i8 H l (.lst (xs++[y])))
theorem cp6:MtM X "list.append" ce8:=by
 intro pins s σ H x vs v us Q I rx rv h;obtain ⟨l,xs,y,rfl,rfl,hH,hz,q⟩:=h;cases rx;obtain ⟨u,rfl,ru⟩:=rv.one;obtain ⟨z,its,n,r,hl,e⟩:=I.lstM hH;refine call_meets F.slot_list_append ⟨_,e,rfl⟩ F.entry_list_append (F.args_list_append_2 _ _) (PySem.list_append l its.toArray n u (by rw[ec7];omega)) ⟨e,?_⟩;refine ⟨.non,_,I.lset (its':=its++[u]) hH e (by simp) (r.append (.cons ru .nil)) ?_,rfl,q⟩;rw[ec2,ep8];omega
def ce9:V->List V->Hp->VK->Prop:=fun x vs H Q=>∃l b xs zs,x= .ref l/\vs=[.ref b]/\H l=some (.lst xs)/\H b=some (.lst zs)/\xs.length+zs.length<=sizeLine/\Q .non (i8 H l (.lst (xs++zs)))
theorem cp7:MtM X "list.extend" ce9:=by
 intro pins s σ H x vs v us Q I rx rv h;obtain ⟨l,b,xs,zs,rfl,rfl,hH,hB,hz,q⟩:=h;cases rx;obtain ⟨u,rfl,ru⟩:=rv.one;cases ru;obtain ⟨z,its,n,r,hl,e⟩:=I.lstM hH;obtain ⟨z2,its2,n2,r2,hl2,e2⟩:=I.lstM hB
 have hsz:its.toArray.size+its2.toArray.size<=sizeLine:=by rw[ec7,ec7];omega
 have hlong:¬(!its.toArray.isEmpty&&Builtin.List.listTooLong (its.toArray.size+its2.toArray.size))=true:=by
   rw[br8 hsz,Bool.and_false];exact ed9
 refine call_meets F.slot_list_extend ⟨_,e,rfl⟩ F.entry_list_extend (F.args_list_extend_2 _ _)
   (AutoSeq1.list_extend_list_list_0 l its.toArray n b its2.toArray n2 hlong (by rw[ec7];omega) (by omega)) ⟨e,e2,?_⟩
 refine ⟨.non,_,I.lset (its':=its++its2) hH e (by simp) (r.append r2) ?_,rfl,q⟩;rw[ec2];omega
def do9:V->List V->Hp->VK->Prop:=fun x vs H Q=>∃l xs y,x= .ref l/\vs=[]/\H l=some (.lst xs)/\xs[xs.length - 1]? =some y/\Q y (i8 H l (.lst xs.dropLast))
theorem dp0:MtM X "list.pop" do9:=by
 intro pins s σ H x vs v us Q I rx rv h;obtain ⟨l,xs,y,rfl,rfl,hH,hy,q⟩:=h;cases rx;have hus:=rv.zero;subst hus;obtain ⟨z,its,n,r,hl,e⟩:=I.lstM hH;obtain ⟨u,hu,ru⟩:=r.get hy
 have hy':its.toArray[its.toArray.size - 1]? =some u:=by
   show its.toArray[its.length - 1]? =some u;rw[<-ef2,<-hl];exact hu
 refine call_meets F.slot_list_pop ⟨_,e,rfl⟩ F.entry_list_pop (F.args_list_pop_1 _) (MeetsSeq.list_pop_last l its.toArray n u hy' (by rw[ec7];omega)) ⟨e,?_⟩;refine ⟨y,_,I.lset (its':=its.dropLast) hH e ?_ r.dropLast ?_,ru,q⟩
 · show its.toArray.eraseIdxIfInBounds (its.toArray.size - 1)=its.dropLast.toArray;rw[ec7,ep9,cj9]
 · rw[List.length_dropLast];omega
def cp8:V->List V->Hp->VK->Prop:=fun x vs H Q=>∃l xs i k y,x= .ref l/\vs=[.int i]/\H l=some (.lst xs)/\ -(2^63)<=i/\i < 2^63/\seqIndex? i xs.length=some k/\xs[k]? =some y/\Q y (i8 H l (.lst (xs.eraseIdx k)))
theorem cz5:MtM X "list.pop" cp8:=by
 intro pins s σ H x vs v us Q I rx rv h;obtain ⟨l,xs,i,k,y,rfl,rfl,hH,h1,h2,hk,hy,q⟩:=h;cases rx;obtain ⟨u,rfl,ru⟩:=rv.one;obtain ⟨t,rfl⟩:=ru;obtain ⟨z,its,n,r,hl,e⟩:=I.lstM hH;obtain ⟨w,hw,rw'⟩:=r.get hy
 refine call_meets F.slot_list_pop ⟨_,e,rfl⟩ F.entry_list_pop (F.args_list_pop_2 _ _)
   (MeetsSeq.list_pop_at l its.toArray n i t k w (fitsIndex_both h1 h2) (by rw[ec7,<-hl];exact hk) (by rw[<-ef2];exact hw) (by rw[ec7];omega)) ⟨e,?_⟩
 refine ⟨y,_,I.lset (its':=its.eraseIdx k) hH e ?_ (r.eraseIdx k) ?_,rw',q⟩
 · show its.toArray.eraseIdxIfInBounds k=(its.eraseIdx k).toArray;rw[ep9]
 · have:=bl0 xs k;omega
def dz0:R2:=fun x y H Q=>∃l b xs zs,x= .ref l/\y= .ref b/\H l=some (.lst xs)/\H b=some (.lst zs)/\xs.length+zs.length<=sizeLine/\∀p,H p=none->Q (.ref p) (i8 H p (.lst (xs++zs)))
theorem cp9:M8 X (binaryOp .Add) dz0:=by
 intro pins s σ H x y v u Q I rx ry h;obtain ⟨l,b,xs,zs,rfl,rfl,hH,hB,hz,q⟩:=h;cases rx;cases ry;obtain ⟨z,its,n,r,hl,e⟩:=I.lstM hH;obtain ⟨z2,its2,n2,r2,hl2,e2⟩:=I.lstM hB;refine PySem.P.add_list e e2 ?_ (by rw[ec7,ec7];omega)
 have ea:its.toArray++its2.toArray=(its++its2).toArray:=by simp
 rw[ea];exact ⟨.ref _,_,I.lnew (t':=s.toks) (r.append r2) (by rw[ec2];omega),rfl,q _ I.fresh⟩
def dz1:R2:=fun x y H Q=>∃l k xs,x= .ref l/\y= .int k/\H l=some (.lst xs)/\ -(2^63)<=k/\k < 2^63/\xs.length*k.toNat<=sizeLine/\
 ∀p,H p=none->Q (.ref p) (i8 H p (.lst (ed1 k.toNat xs).flatten))
theorem di1 {α:Type}(xs:List α)(k:Nat):(ed1 k xs).flatten.length=k*xs.length:=by
 induction k with
 |zero=>simp
 |succ k ih=>rw[ej2,ee8,ec2,ih,ej7,ek3]
theorem ar2:M8 X (binaryOp .Mult) dz1:=by
 intro pins s σ H x y v u Q I rx ry h;obtain ⟨l,k,xs,rfl,rfl,hH,h1,h2,hz,q⟩:=h;cases rx;obtain ⟨t,rfl⟩:=ry;obtain ⟨z,its,n,r,hl,e⟩:=I.lstM hH
 have hlen:its.toArray.size*k.toNat<=sizeLine:=by rw[ec7,<-hl];exact hz
 have hcap:¬its.toArray.size*k.toNat > (2^63 - 1)/8:=by
   have:(sizeLine:Nat)<=(2^63 - 1)/8:=by decide
   omega
 have hfit:¬(!Builtin.List.listFitsIndex k)=true:=by
   rw[fitsIndex_both h1 h2];exact ed9
 have hlong:¬Builtin.List.listTooLong (its.toArray.size*k.toNat)=true:=by
   rw[br8 hlen];exact ed9
 have hnew:List.foldl (fun x1 x2=>x1++x2) #[] (ed1 (if its.toArray.isEmpty=true then 0 else k.toNat) its.toArray)=(ed1 k.toNat its).flatten.toArray:=by
   have f0:∀m:Nat,List.foldl (fun x1 x2=>x1++x2) #[] (ed1 m its.toArray)=(ed1 m its).flatten.toArray:=fun m=>by
     have:=bl3 its m [];rw[List.nil_append] at this;exact this
   rw[f0]
   cases its with
   |nil=>simp
   |cons a r'=>rw[if_neg (by simp)]
 refine wpAny_binaryOp_repeat_ref (T:="list") (U:="int") (by decide) ⟨_,e,rfl⟩ (fun s'=>typeIs_int s' k t) noFill_list_mul F.fills_int_mul F.slot_int_rmul repeat_list F.slot_int_index.lookup
   (call_meets F.slot_int_rmul (typeIs_int s k t) F.entry_int_rmul (F.args_int_rmul_2 _ _) (int___rmul___int_list k t l its.toArray n)
     ⟨e,rfl,⟨_,e,rfl⟩,call_meets F.slot_list_mul ⟨_,e,rfl⟩ F.entry_list_mul (F.args_list_mul_2 _ _) (AutoListH.list___mul___list_int_3 l its.toArray n k t hfit hcap hlong) ⟨e,?_⟩⟩)
 rw[hnew];exact ⟨.ref _,_,I.lnew (t':=s.toks) (r.rep k.toNat) (by rw[di1,ej0];exact hz),rfl,q _ I.fresh⟩
end
end L2
namespace L2
open PySem PySem.Spec PyProof.Rows
section
variable {κ:Type} [DecidableEq κ]
def B8 (kvs:List (κ×V))(k:κ):Option V:=(kvs.find? fun kv=>decide (kv.1=k)).map (·.2)
def P0 (kvs:List (κ×V))(k:κ)(v:V):List (κ×V):=
 if (kvs.any fun kv=>decide (kv.1=k))=true then kvs.map (fun kv=>if kv.1=k then (kv.1,v) else kv) else kvs++[(k,v)]
theorem Y5 {p:κ×V}{r:List (κ×V)}{k:κ}(e:p.1=k):B8 (p::r) k=some p.2:=by simp [B8,em3,e]
theorem ad8 {p:κ×V}{r:List (κ×V)}{k:κ}(e:¬p.1=k):B8 (p::r) k=B8 r k:=by simp [B8,em3,e]
theorem ay0 (k:κ):∀kvs:List (κ×V),(kvs.any fun kv=>decide (kv.1=k))=(B8 kvs k).isSome
 |[]=>rfl
 |p::r=>by
  rw[eu8]
  by_cases e:p.1=k
  · simp only[Y5 e,decide_eq_true e,Bool.true_or,Option.isSome_some]
  · rw[ad8 e,decide_eq_false e,Bool.false_or];exact ay0 k r
theorem aw6 (kvs:List (κ×V))(k:κ)(v:V):(P0 kvs k v).length<=kvs.length+1:=by
 unfold P0
 split
 · rw[eb8];omega
 · rw[ec2,ef6,eu0];omega
theorem al8 {kvs:List (κ×V)}{k:κ}(v:V)(h:B8 kvs k=none):P0 kvs k v=kvs++[(k,v)]:=by
 unfold P0;rw[ay0,h];exact if_neg (by decide)
theorem T8.isSome_eq {o:Option V}{u:Option Value}(r:T8 o u):o.isSome=u.isSome:=by
 cases o with
 |none=>cases u with
  |none=>rfl
  |some _=>exact (show False from r).elim
 |some _=>cases u with
  |none=>exact (show False from r).elim
  |some _=>rfl
theorem KV.val {kvs:List (κ×V)}{vs:List (κ×Value)}(r:KV kvs vs)(k:κ):T8 (B8 kvs k) (valueAt vs k):=by
 unfold KV at r
 induction r with
 |nil=>exact True.intro
 |@cons p q ps qs h t ih=>
  obtain ⟨h1,h2⟩:=h
  by_cases e:p.1=k
  · have e':q.1=k:=h1.symm.trans e
    have b:valueAt (q::qs) k=some q.2:=by simp [valueAt,em3,e']
    rw[Y5 e,b];exact h2
  · have e':¬q.1=k:=fun z=>e (h1.trans z)
    have b:valueAt (q::qs) k=valueAt qs k:=by simp [valueAt,em3,e']
    rw[ad8 e,b];exact ih
theorem KV.any {kvs:List (κ×V)}{vs:List (κ×Value)}(r:KV kvs vs)(k:κ):(kvs.any fun kv=>decide (kv.1=k))=vs.any fun kv=>decide (kv.1=k):=by
 unfold KV at r
 induction r with
 |nil=>rfl
 |cons h t ih=>rw[eu8,eu8,ih,h.1]
theorem KV.repl {kvs:List (κ×V)}{vs:List (κ×Value)}(r:KV kvs vs)(k:κ){y:V}{u:Value}(ry:w4 y u):
   KV (kvs.map fun kv=>if kv.1=k then (kv.1,y) else kv) (vs.map fun kv=>if kv.1=k then (kv.1,u) else kv):=by
 unfold KV at r ⊢
 induction r with
 |nil=>exact .nil
 |@cons p q ps qs h t ih=>
  rw[eg2,eg2];refine .cons ?_ ih;obtain ⟨h1,h2⟩:=h
  by_cases e:p.1=k
  · rw[if_pos e,if_pos (h1.symm.trans e)];exact ⟨h1,ry⟩
  · rw[if_neg e,if_neg (fun z=>e (h1.trans z))];exact ⟨h1,h2⟩
theorem KV.put {kvs:List (κ×V)}{vs:List (κ×Value)}(r:KV kvs vs)(k:κ){y:V}{u:Value}(ry:w4 y u):KV (P0 kvs k y) (stored vs k u):=by
 unfold P0 stored;rw[r.any k]
 by_cases e:(vs.any fun kv=>decide (kv.1=k))=true
 · rw[if_pos e,if_pos e];exact r.repl k ry
 · rw[if_neg e,if_neg e];exact Paired.snoc r ⟨rfl,ry⟩
theorem KV.length {kvs:List (κ×V)}{vs:List (κ×Value)}(r:KV kvs vs):kvs.length=vs.length:=Paired.length r
end
theorem ag7 {P:Program}{w:World}{k:x5}{u:Value}(r:w4 (kV k) u):(A9 P w).is k u=true:=by
 cases k with
 |inl i=>obtain ⟨t,e⟩:=(show ∃t,u=Value.int i t from r);subst e;exact aw3 P w i t
 |inr x=>obtain ⟨t,e⟩:=(show ∃t,u=Value.str x t from r);subst e;exact Z7 P w x t
theorem bl4 {P:Program}{w:World}:∀{ks:List x5} {us:List Value},o8 (ks.map kV) us->ItemsAre (A9 P w) ks us
 |[],_,r=>by rw[eo9] at r;cases r;exact .nil
 |k::ks,_,r=>by
  rw[eg2] at r
  cases r with
  |cons h t=>exact .cons (ag7 h) (bl4 t)
abbrev KT (H:Hp):List (List x5×V)->List (List x5×Addr×Value)->Prop:=Paired fun p q=>p.1=q.1/\H q.2.1=some (.tup (p.1.map kV))/\w4 p.2 q.2.2
theorem KT.val {H:Hp}{kvs:List (List x5×V)}{xs:List (List x5×Addr×Value)}(r:KT H kvs xs)(k:List x5):T8 (B8 kvs k) ((atKey xs k).map (·.2)):=by
 induction r with
 |nil=>exact True.intro
 |@cons p q ps qs h t ih=>
  obtain ⟨h1,_,h2⟩:=h
  by_cases e:p.1=k
  · have e':q.1=k:=h1.symm.trans e
    have b:atKey (q::qs) k=some q.2:=by simp [atKey,em3,e']
    rw[Y5 e,b];exact h2
  · have e':¬q.1=k:=fun z=>e (h1.trans z)
    have b:atKey (q::qs) k=atKey qs k:=by simp [atKey,em3,e']
    rw[ad8 e,b];exact ih
theorem KT.repl {H:Hp}{kvs:List (List x5×V)}{xs:List (List x5×Addr×Value)}(r:KT H kvs xs)(k:List x5){y:V}{u:Value}(ry:w4 y u):
   KT H (kvs.map fun kv=>if kv.1=k then (kv.1,y) else kv) (xs.map (putAt k u)):=by
 induction r with
 |nil=>exact .nil
 |@cons p q ps qs h t ih=>
  rw[eg2,eg2];refine .cons ?_ ih;obtain ⟨h1,h2,h3⟩:=h;unfold putAt
  by_cases e:p.1=k
  · rw[if_pos e,if_pos (h1.symm.trans e)];exact ⟨h1,h2,ry⟩
  · rw[if_neg e,if_neg (fun z=>e (h1.trans z))];exact ⟨h1,h2,h3⟩
theorem KT.put {H:Hp}{kvs:List (List x5×V)}{xs:List (List x5×Addr×Value)}(r:KT H kvs xs)(k:List x5){b:Addr}{y:V}{u:Value}(hb:H b=some (.tup (k.map kV)))(ry:w4 y u):
   KT H (P0 kvs k y) (storedH xs k b u):=by
 have e:(kvs.any fun kv=>decide (kv.1=k))=(atKey xs k).isSome:=by
   rw[ay0,(r.val k).isSome_eq,es0]
 unfold P0 storedH;rw[e]
 by_cases q:(atKey xs k).isSome=true
 · rw[if_pos q,if_pos q];exact r.repl k ry
 · rw[if_neg q,if_neg q];exact Paired.snoc r ⟨rfl,hb,ry⟩
theorem KT.keeps {H H':Hp}{kvs:List (List x5×V)}{xs:List (List x5×Addr×Value)}(r:KT H kvs xs)(ht:∀b ys,H b=some (.tup ys)->H' b=some (.tup ys)):KT H' kvs xs:=
 Paired.mapP r fun _ _ z=>⟨z.1,ht _ _ z.2.1,z.2.2⟩
section
variable {P:Program} {w:World} {H:Hp} {h:Heap} {a:Addr}
theorem df4 {u:HO}(ok:E4 P w H h)(e:Rd H a u):A5 P w H h a u:=e.ok ok
theorem bb8 {kvs:List (x5×V)}(ok:E4 P w H h)(e:Rd H a (.dK kvs)):kvs.length<=sizeLine/\(a==sysModules)=false/\∃vs,KV kvs vs/\h.DictOf (A9 P w) a vs:=
 show A5 P w H h a (.dK kvs) from df4 ok e
theorem df5 {kvs:List (x5×V)}(ok:E4 P w H h)(e:H a=some (.dK kvs)):kvs.length<=sizeLine/\(a==sysModules)=false/\∃vs,KV kvs vs/\h.DictOf (A9 P w) a vs:=bb8 ok (.inl e)
theorem ar3 {ks:List x5}(ok:E4 P w H h)(e:H a=some (.tup (ks.map kV))):(tupleKind (A9 P w)).is h ks a:=by
 obtain ⟨_,its,r,o,h1,h2,n,h3⟩:=(show A5 P w H h a (.tup (ks.map kV)) from ok a _ e);exact ⟨o,its.toArray,n,h1,h2,h3,by simpa using bl4 r⟩
theorem bb9 {kvs:List (List x5×V)}(ok:E4 P w H h)(e:Rd H a (.dT kvs)):kvs.length<=sizeLine/\(a==sysModules)=false/\
   ∃xs,KT H kvs xs/\h.DictOfH (tupleKind (A9 P w)) a xs:=by
 obtain ⟨z,y,xs,r,o,es,ep,h1,h2,h3,h4,h5⟩:=(show A5 P w H h a (.dT kvs) from df4 ok e);refine ⟨z,y,xs,r,o,es,ep,h1,h2,h3,h4,fun x hx=> ?_,h5⟩
 have all:∀{l:List (List x5×V)} {m:List (List x5×Addr×Value)},KT H l m->∀x∈m,(tupleKind (A9 P w)).is h x.1 x.2.1:=by
   intro l m q
   induction q with
   |nil=>intro x hx;exact nomatch hx
   |@cons p q ps qs hq t ih=>
    intro x hx
    rcases ec8.mp hx with e|hx
    · subst e;exact ar3 ok (by rw[<-hq.1];exact hq.2.1)
    · exact ih x hx
 exact all r x hx
theorem du0 {kvs:List (List x5×V)}(ok:E4 P w H h)(e:H a=some (.dT kvs)):kvs.length<=sizeLine/\(a==sysModules)=false/\
 ∃xs,KT H kvs xs/\h.DictOfH (tupleKind (A9 P w)) a xs:=bb9 ok (.inl e)
end
def Y6 (H:Hp)(a:Addr)(y:V)(r:Option V):Prop:=
 (∃kvs k,Rd H a (.dK kvs)/\y=kV k/\r=B8 kvs k)\/∃kvs k b,Rd H a (.dT kvs)/\y= .ref b/\H b=some (.tup (k.map kV))/\r=B8 kvs k
def ay1 (H:Hp)(a:Addr)(y v:V)(H':Hp):Prop:=
 (∃kvs k,H a=some (.dK kvs)/\y=kV k/\kvs.length < sizeLine/\H'=i8 H a (.dK (P0 kvs k v)))\/
 ∃kvs k b,H a=some (.dT kvs)/\y= .ref b/\H b=some (.tup (k.map kV))/\kvs.length < sizeLine/\H'=i8 H a (.dT (P0 kvs k v))
theorem Y6.k {H:Hp}{a:Addr}{kvs:List (x5×V)}{k:x5}(e:H a=some (.dK kvs)):Y6 H a (kV k) (B8 kvs k):= .inl ⟨kvs,k,.inl e,rfl,rfl⟩
theorem ay1.k {H:Hp}{a:Addr}{kvs:List (x5×V)}{k:x5}{v:V}(e:H a=some (.dK kvs))(hl:kvs.length < sizeLine):ay1 H a (kV k) v (i8 H a (.dK (P0 kvs k v))):= .inl ⟨kvs,k,e,rfl,hl,rfl⟩
section
variable {X:Cx} {pins:List (Addr×Obj)} {σ:St} {H:Hp} {s:Shared} {a:Addr} {y v:V} {u r:Value} {o:Option V} {A:Around} {E:Value->Shared->Prop}
theorem i9.big (I:i9 X pins σ H s):sysModules < s.heap.objs.size:=by
 have h:mainGlobals < s.heap.objs.size:=(I.mod.glob.keeps I.bk).lt;exact Nat.lt_trans (by decide) h
theorem cq0 {Q:Value->Shared->Prop}(hu:A.units+1 < cLine)(I:i9 X pins σ H s)(g:Y6 H a y (some v))(ry:w4 y u)(h:∀w' s',i9 X pins σ H s'->w4 v w'->Q w' s'):
   wpAny (model X.prog X.w) A (getItem (.ref a) u) Q E s:=by
 rcases g with ⟨kvs,k,e,ey,l⟩|⟨kvs,k,b,e,ey,eb,l⟩
 · subst ey;obtain ⟨z,hd,vs,rel,dd⟩:=bb8 I.hok e;obtain ⟨w',hw,rw'⟩:=T8.some_of (v:=v) (o:=valueAt vs k) (by rw[l];exact rel.val k);exact wpAny_getItem_of (ag7 ry) dd.mapOf hw (h w' _ (I.tok _) rw')
 · subst ey;cases (show u=Value.ref b from ry);obtain ⟨z,hd,xs,rel,dd⟩:=bb9 I.hok e;obtain ⟨w',hw,rw'⟩:=T8.some_of (v:=v) (o:=(atKey xs k).map (·.2)) (by rw[l];exact rel.val k);obtain ⟨p,hp,hp2⟩:=ei7.mp hw;refine wpAny_getItem_heap (tupleKind_room_in1 hu) (ar3 I.hok eb) dd hp ?_;rw[hp2];exact h w' _ (I.tok _) rw'
theorem dz2 {Q:Value->Shared->Prop}(hu:A.units+1 < cLine)(I:i9 X pins σ H s)(g:Y6 H a y o)(ry:w4 y u)(h:∀s',i9 X pins σ H s'->Q (.bool o.isSome) s'):
   wpAny (model X.prog X.w) A (compareOp .In u (.ref a)) Q E s:=by
 rcases g with ⟨kvs,k,e,ey,l⟩|⟨kvs,k,b,e,ey,eb,l⟩
 · subst ey;obtain ⟨z,hd,vs,rel,dd⟩:=bb8 I.hok e;refine wpAny_in_of (ag7 ry) hd dd.mapOf ?_;rw[<-(rel.val k).isSome_eq,<-l];exact h _ (I.tok _)
 · subst ey;cases (show u=Value.ref b from ry);obtain ⟨z,hd,xs,rel,dd⟩:=bb9 I.hok e;refine wpAny_in_heap (tupleKind_room_in1 hu) (ar3 I.hok eb) hd dd ?_;have q:=(rel.val k).isSome_eq;rw[es0] at q;rw[<-q,<-l];exact h _ (I.tok _)
theorem di2 {Q:Value->Shared->Prop}(hu:A.units+1 < cLine)(I:i9 X pins σ H s)(g:Y6 H a y o)(ry:w4 y u)(h:∀s',i9 X pins σ H s'->Q (.bool (!o.isSome)) s'):
   wpAny (model X.prog X.w) A (compareOp .NotIn u (.ref a)) Q E s:=by
 rcases g with ⟨kvs,k,e,ey,l⟩|⟨kvs,k,b,e,ey,eb,l⟩
 · subst ey;obtain ⟨z,hd,vs,rel,dd⟩:=bb8 I.hok e;refine wpAny_notIn_of (ag7 ry) hd dd.mapOf ?_;rw[<-(rel.val k).isSome_eq,<-l];exact h _ (I.tok _)
 · subst ey;cases (show u=Value.ref b from ry);obtain ⟨z,hd,xs,rel,dd⟩:=bb9 I.hok e;refine wpAny_notIn_heap (tupleKind_room_in1 hu) (ar3 I.hok eb) hd dd ?_;have q:=(rel.val k).isSome_eq;rw[es0] at q;rw[<-q,<-l];exact h _ (I.tok _)
theorem au5 {h':Heap}{t':Nat}{ob:HO}(I:i9 X pins σ H s)(mu:Mut (H a))(hs:Heap.SameBut a s.heap h')(he:∃q,h'.get? a=some q)(new:A5 X.prog X.w (i8 H a ob) h' a ob):
   i9 X pins σ (i8 H a ob) {s with heap:=h',toks:=t'}:=
 I.write (x:=a) (e:=a) mu (.inl rfl) (fun b q hb z=>(hs.2 b hb).trans z) he new
theorem cq1 {P:Program}{w:World}{H':Hp}{h':Heap}{kvs:List (x5×V)}{vs:List (x5×Value)}(z:kvs.length<=sizeLine)(hd:(a==sysModules)=false)(rel:KV kvs vs)(dd:h'.DictOf (A9 P w) a vs):
 A5 P w H' h' a (.dK kvs):=⟨z,hd,vs,rel,dd⟩
theorem cq2 {H':Hp}{Q:Unit->Shared->Prop}(hu:A.units+1 < cLine)(I:i9 X pins σ H s)(g:ay1 H a y v H')(ry:w4 y u)(rv:w4 v r)(h:∀s',i9 X pins σ H' s'->Q () s'):
   wpAny (model X.prog X.w) A (setItem (.ref a) u r) Q E s:=by
 rcases g with ⟨kvs,k,e,ey,l,eH⟩|⟨kvs,k,b,e,ey,eb,l,eH⟩
 · subst ey eH;obtain ⟨z,hd,vs,rel,dd⟩:=df5 I.hok e
   have hz:vs.length<=sizeLine:=by rw[<-rel.length];exact z
   have hl:(P0 kvs k v).length<=sizeLine:=by have:=aw6 kvs k v;omega
   refine wpAny_setItem_pairs (hsz:=hz) (ag7 ry) dd fun h' dd' hs=>h _ ?_
   have he:∃q,h'.get? a=some q:=let ⟨q,_,_,hq,_⟩:=dd';⟨q,hq⟩;exact au5 I (by rw[e];exact True.intro) hs he (cq1 hl hd (rel.put k rv) dd')
 · subst ey eH;cases (show u=Value.ref b from ry);obtain ⟨z,hd,xs,rel,dd⟩:=du0 I.hok e
   have hz:xs.length<=sizeLine:=by rw[<-Paired.length rel];exact z
   have hl:(P0 kvs k v).length<=sizeLine:=by have:=aw6 kvs k v;omega
   refine wpAny_setItem_heap (hsz:=hz) (tupleKind_room_in1 hu) (ar3 I.hok eb) dd fun h' dd' hs=>h _ ?_
   obtain ⟨q,es,ep,hq,h2,h3,h4,_,h5⟩:=dd';refine au5 I (by rw[e];exact True.intro) hs ⟨q,hq⟩ ⟨hl,hd,_,(rel.put k eb rv).keeps fun c ys ec=> ?_,q,es,ep,hq,h2,h3,h4,h5⟩;rw[i6 (de8 ec e (fun z=>nomatch z))];exact ec
end
def cz6 (i:Expr):Prop:=∀ov iv,subscripted i false ov iv=operate [ov,iv] (getItem ov iv)
theorem cf0 {prog:Program}{w:World}{A:Around}{E:Value->Shared->Prop}{s:Shared}{env:Env}{value slice:Expr}{pos:Pos}{T id:String}{Q:Value->Shared->Prop}
   (hl:typeLookup (.type T) "__getitem__"=pure (some (.builtin id))) (hs:cz6 slice)
   (h:wpAny (model prog w) A (eval value env) (fun o s₁=>wpAny (model prog w) A (eval slice env) (fun i s₂=>s₂.TypeIs o T/\wpAny (model prog w) A (getItem o i) Q E s₂) E s₁) E s):
   wpAny (model prog w) A (eval (.Subscript value slice pos) env) Q E s:=by
 refine Subscript_ (wpAny_mono h (fun o s₁ h₁=>wpAny_mono h₁ (fun i s₂ h₂=> ?_) fun _ _ x=>x) fun _ _ x=>x);obtain ⟨hT,h₂⟩:=h₂;unfold subscriptTail;refine wpAny_bind ?_;rw[getitemInPython_of_ne hT.not_modules];refine wpAny_bind (wpAny_specialOf hT hl ?_)
 have fin:wpAny (model prog w) A (subscripted slice false o i) (fun r s₃=>wpAny (model prog w) A (letTemporaryGo value o r >>=fun _=>pure r) Q E s₃) E s₂:=by
   rw[hs o i];exact wpAny_operating (wpAny_mono h₂ (fun r s₃ h₃=>wpAny_bind (wpAny_letTemporaryGo (wpAny_pure h₃))) fun _ _ x=>x)
 first
   |exact wpAny_pure (wpAny_bind fin)
   |exact wpAny_bind (wpAny_pure (wpAny_bind fin))
   |exact wpAny_bind fin
theorem ca9 {X:Cx}{pins:List (Addr×Obj)}{σ:St}{H:Hp}{s:Shared}{a:Addr}{y:V}{o:Option V}(I:i9 X pins σ H s)(g:Y6 H a y o):s.TypeIs (.ref a) "dict":=by
 rcases g with ⟨kvs,k,e,_,_⟩|⟨kvs,k,b,e,_,_,_⟩
 · obtain ⟨_,_,vs,_,dd⟩:=bb8 I.hok e;exact dd.typeIs
 · obtain ⟨_,_,xs,_,dd⟩:=bb9 I.hok e;exact dd.typeIs
def du1 (td ty:TE):TE:=fun σ H Q=>td σ H fun x H1=>ty σ H1 fun y H2=>∃a v,x= .ref a/\Y6 H2 a y (some v)/\Q v H2
def dz3 (ty td:TE):TE:=fun σ H Q=>ty σ H fun y H1=>td σ H1 fun x H2=>∃a o,x= .ref a/\Y6 H2 a y o/\Q (.bl o.isSome) H2
def di3 (ty td:TE):TE:=fun σ H Q=>ty σ H fun y H1=>td σ H1 fun x H2=>∃a o,x= .ref a/\Y6 H2 a y o/\Q (.bl (!o.isSome)) H2
def du2 (td ty tv:TE):TS:=fun D σ H=>tv σ H fun v H1=>td σ H1 fun x H2=>ty σ H2 fun y H3=>∃a H4,x= .ref a/\ay1 H3 a y v H4/\D.nx σ H4
section
variable {X:Cx} {o i e value:Expr} {pos pos' tpos:Pos} {td ty tv:TE}
theorem au6 (hu:X.A.units+1 < cLine)(ho:PE X o td)(hi:PE X i ty)(hs:cz6 i):PE X (.Subscript o i pos) (du1 td ty):=by
 intro pins s σ H Q I h;refine cf0 PySem.F.slot_dict_getitem.lookup hs (r6 (ho pins s σ H _ I h) fun u s1 ⟨x,H1,I1,rx,q1⟩=>r6 (hi pins s1 σ H1 _ I1 q1) fun iv s2 ⟨y,H2,I2,ry,a,v,ex,g,q2⟩=> ?_);subst ex;obtain rfl:u=Value.ref a:=rx;exact ⟨ca9 I2 g,cq0 hu I2 g ry fun w' s3 I3 rw'=>⟨v,H2,I3,rw',q2⟩⟩
theorem dp1 (hu:X.A.units+1 < cLine)(hi:PE X i ty)(ho:PE X o td):PC X .In i o (dz3 ty td):=by
 intro pins s σ H Q I h
 refine r6 (hi pins s σ H _ I h) fun iv s1 ⟨y,H1,I1,ry,q1⟩=>r6 (ho pins s1 σ H1 _ I1 q1) fun u s2 ⟨x,H2,I2,rx,a,ov,ex,g,q2⟩=> ?_
 subst ex;obtain rfl:u=Value.ref a:=rx
 exact dz2 hu I2 g ry fun s3 I3=>⟨.bl ov.isSome,H2,I3,rfl,q2⟩
theorem bl5 (hu:X.A.units+1 < cLine)(hi:PE X i ty)(ho:PE X o td):PC X .NotIn i o (di3 ty td):=by
 intro pins s σ H Q I h
 refine r6 (hi pins s σ H _ I h) fun iv s1 ⟨y,H1,I1,ry,q1⟩=>r6 (ho pins s1 σ H1 _ I1 q1) fun u s2 ⟨x,H2,I2,rx,a,ov,ex,g,q2⟩=> ?_
 subst ex;obtain rfl:u=Value.ref a:=rx
 exact di2 hu I2 g ry fun s3 I3=>⟨.bl (!ov.isSome),H2,I3,rfl,q2⟩
theorem au7 (hu:X.A.units+1 < cLine)(ho:PE X o td)(hi:PE X i ty)(hv:PE X value tv)(hs:swapsWith value (some (.Subscript o i pos')) pos.line X.env=pure false):
   PS X (.Assign [.Subscript o i pos'] value pos) (du2 td ty tv):=by
 intro pins s σ H D I h;refine wpAny_Assign_Subscript (r6 (hv pins s σ H _ I h) fun r s1 ⟨v,H1,I1,rv,q1⟩=>r6 (ho pins s1 σ H1 _ I1 q1) fun u s2 ⟨x,H2,I2,rx,q2⟩=>r6 (hi pins s2 σ H2 _ I2 q2) fun iv s3 ⟨y,H3,I3,ry,a,H4,ex,g,q3⟩=> ?_) hs;subst ex;obtain rfl:u=Value.ref a:=rx
 exact cq2 hu I3 g ry rv fun s4 I4=>⟨σ,H4,I4,q3⟩
end
theorem cz7 {P:Program}{w:World}{H:Hp}(h:Heap)(hb:sysModules < h.objs.size):A5 P w H (h.push {cls:= .type "dict",data:= .dict #[]}) h.objs.size (.dK []):=
 ⟨ee2 _,beq_eq_false_iff_ne.mpr (Ne.symm (ed2 hb)),[],.nil,Heap.DictOf.new h⟩
def dp2:TE:=fun _ H Q=>∀p,H p=none->Q (.ref p) (i8 H p (.dK []))
section
variable {X:Cx} {pos:Pos}
theorem al9:PE X (.Dict [] [] pos) dp2:=fun pins s σ H Q I h=>
 wpAny_Dict_empty ⟨.ref s.heap.objs.size,_,I.laid (a:=s.heap.objs.size) (o:= .dK []) (t':=s.toks) (fun _ _ q=>Heap.get?_push_of_some _ q) (ec6 _) (cz7 s.heap I.big),rfl,h _ (I.hok.fresh (ec6 _))⟩
end
end L2
namespace Att
open PySem PySem.W PySem.Calls PyProof.Rows
theorem bc0 {P:Params}{h:Heap}:∀(ns:List Int) (vs:List Value),WellAll P h vs (ns.map WData.int)->IntsAre vs ns:=by
 intro ns
 induction ns with
 |nil=>
  intro vs w;rw[eo9] at w;cases w;exact .nil
 |cons n ns ih=>
  intro vs w;rw[eg2] at w
  cases w with
  |cons a b=>
   cases a;exact .cons _ _ (ih _ b)
theorem cq3 {l:OpenLaw}{n:Nat}(hn:l.most=some n){P:Params}{h:Heap}{args:List WData}{vals:List Value}
   (hpre:l.row.toRowW.claim.pre args=true) (hwl:WellAll P h vals args):
   ∃a vs ns,vals=[Value.ref a]/\args=[WData.list (ns.map WData.int)]/\h.get? a=some {cls:= .type "list",data:= .seq vs.toArray}/\IntsAre vs ns/\ns.length<=n:=by
 have hsh:WShape.hasAll [] args [.list .int]=true:=(pre_splitW hpre).1;have hc:l.pre.holds [] {args:=args}=true:=(pre_splitW hpre).2;obtain ⟨d,r,rfl,h1,h2⟩:=hasAllW_cons hsh;obtain rfl:=hasAllW_nil h2;obtain ⟨xs,rfl,h3⟩:=hasW_list h1;obtain ⟨ns,rfl⟩:=items_int h3
 have hlen:ns.length<=n:=by
   unfold OpenLaw.pre at hc
   have h4:(WTm.not (.lt (.lit (.int (n:Int))) (.len (.arg 0)))).holds [] {args:=[.list (ns.map .int)]}=true:=by
     have h4:=(holds_andW hc).1;rw[hn] at h4;exact h4
   have h5:=condW_of h4 (w_not (w_lt w_lit (w_len_list (w_arg rfl))));rw[eb8] at h5
   refine Nat.le_of_not_lt fun q=> ?_
   have q':(n:Int) < ((ns.length:Nat):Int):=by omega
   first
     |(rw[decide_eq_true q'] at h5;exact absurd h5 (by decide))
     |(simp at h5;omega)
 cases hwl with
 |cons w1 w2=>
  cases w2
  cases w1 with
  |list ho hall=>exact ⟨_,_,ns,rfl,rfl,ho,bc0 ns _ hall,hlen⟩
theorem cq4 (l:OpenLaw)(args:List WData):l.row.toRowW.claim.post args (.bool true) args=true:=
 postW_of (r:=l.row.toRowW) (X:=(true==true))
   (show WShape.has [] (.bool true) .bool=true by first|rfl|decide|simp [WShape.has,WShape.arms,WShape.armsAll])
   (show (WTm.eq .res (.lit (.bool true))).value [] {args:=args,res:=some (.bool true),after:=args}=some (.bool (true==true)) from w_eq_bool (w_res rfl) w_lit) rfl
theorem ds8 {l:OpenLaw}{n:Nat}{q:Program}{loose:List Str}{XP:(Str->Option Value)->Heap->Prop}{YP:World->Heap->Prop}{d:DefRec}
   (hn:l.most=some n) (hdf:d.params.defaults=[])
   (call:∀(w:World) (s₀ s₁:Shared) (mg mb:Str->Option Value) (fa:Addr) (o:Obj) (pm cd doc:Value) (a:Addr) (vs:List Value) (ns:List Int),
     Ground q loose [] XP w s₀ mg mb s₁.heap->YP w s₁.heap->
     s₁.heap.get? fa=some o->o.data= .func (docDef d.name d.params d.body d.scope pm cd doc)->s₁.heap.CodeRec cd d.name->mg d.name=some (.ref fa)->
     s₁.heap.get? a=some {cls:= .type "list",data:= .seq vs.toArray}->IntsAre vs ns->ns.length<=n->s₁.gens= #[]->
     codeAny (model l.prog w) callerA (.call (.ref fa) ⟨[.ref a],[]⟩) (fun r s'=>r= .ok (.ret (.bool true))/\OldK s₁.heap s'.heap/\s'.os=s₁.os/\AllBare s'.gens) s₁):
   WalkO q loose XP YP l.row.toRowW d [] (fun f vs=>PySem.call f vs):=by
 intro w s₀ s₁ mg mb G Y fa o pm cd doc dV kV ho hd hcd hD hmg hg args vals as hpre hlay hrd hwl hlo;obtain rfl:dV= .none:=Dflts.none hD hdf;obtain rfl:kV= .none:=Dflts.noKw hD;obtain ⟨a,vs,ns,rfl,rfl,hobj,hints,hlen⟩:=cq3 hn hpre hwl;refine enter_call (codeAny_mono (call w s₀ s₁ mg mb fa o pm cd doc a vs ns G Y ho (fd_plain hd) hcd hmg hobj hints hlen hg) fun r s' hq=> ?_);obtain ⟨rfl,h2,h3,h4⟩:=hq;exact ⟨.inl ⟨.bool true,.bool true,[],rfl,fun _=>rfl,.bool true,cq4 l _,fun _=>⟨List.Pairwise.nil,fun _ hm=>(nomatch hm)⟩⟩,h2,h3,h4⟩
end Att
namespace L2
open PySem PySem.Spec PyProof.Rows
theorem ag8:∀{vs:List Value} {ns:List Int},IntsAre vs ns->o8 (ns.map V.int) vs
 |_,_,.nil=> .nil
 |_,_,.cons n t h=> .cons ⟨t,rfl⟩ (ag8 h)
def cz8 (H:Hp):Prop:=∀b,H b=none\/∃o xs,H b=some (.frz o (.lst xs))
theorem cz9 {P:Program}{w:World}{K:PySem.W.Frag}{mg mb:Str->Option Value}{CX:CXT}{k:Nat}{fa a:Addr}{fd:FuncData}{x:Str}{sp:Sp}{s₁:Shared}{vs:List Value}{ns:List Int}
   (KX:K.In s₁.heap) (hns:s₁.heap.Ns mainGlobals mg) (hb:s₁.heap.Ns builtinsNs mb) (hbb:∀x:Str,x≠"__name__"->mb x=bootBuiltins x) (hlim:s₁.heap.NoLimit) (hg:s₁.gens= #[])
   (ha:s₁.heap.get? a=some {cls:= .type "list",data:= .seq vs.toArray}) (hi:IntsAre vs ns) (hl:ns.length<=sizeLine) (hr:m7 k callerA)
   (F:∀base:Heap,K.In base->base.Ns mainGlobals mg->n5 P w K mg base CX k fa fd [x] sp) (hbind:∀(s:Shared) (u:Value),BindsTo s fd ⟨[u],[]⟩ [(x,u)])
   (hsp:∀H:Hp,cz8 H->i5 K H a (ns.map V.int)->sp [.ref a] H (fun v _=>v= .bl true) fun _ _ _=>False)
   (hCX:∀H e s',CX [] H s₁ (fun _ _ _=>False) e s'->False):
   codeAny (model P w) callerA (.call (.ref fa) ⟨[.ref a],[]⟩) (fun r s'=>r= .ok (.ret (.bool true))/\OldK s₁.heap s'.heap/\s'.os=s₁.os/\AllBare s'.gens) s₁:=by
 have rv:=ag8 hi;have lenV:=hi.length
 have core:∀H:Hp,cz8 H->i5 K H a (ns.map V.int)->E4 P w H s₁.heap->(∀b,H b≠none->b=a)->(H a≠none->K.lookup a=none)->
     codeAny (model P w) callerA (.call (.ref fa) ⟨[.ref a],[]⟩) (fun r s'=>r= .ok (.ret (.bool true))/\OldK s₁.heap s'.heap/\s'.os=s₁.os/\AllBare s'.gens) s₁:=by
   intro H hO hS hok hA hK
   have base_of:∀{b:Addr} {o:Obj},s₁.heap.get? b=some o->H b=none->(al1 s₁.heap H).get? b=some o:=fun e n=>cy3 e n
   have noA:∀{b:Addr} {o:Obj} {es:Array DictEntry} {ep:Nat},s₁.heap.get? b=some o->o.data= .dict es ep->H b=none:=fun {b o es ep} e d=>by
     cases q:H b with
     |none=>rfl
     |some u=>
      have e':b=a:=hA b (by rw[q];simp);subst e';rw[ha] at e;cases e;have d':Data.seq vs.toArray _=Data.dict es ep:=d;cases d'
   have nsK:∀{b:Addr} {m:Str->Option Value},s₁.heap.Ns b m->(al1 s₁.heap H).Ns b m:=fun {b m} ⟨o,es,ep,e,d,r⟩=>⟨o,es,ep,base_of e (noA e d),d,r⟩
   have hKb:K.In (al1 s₁.heap H):=fun b o e=>base_of (KX b o e) (by
     cases q:H b with
     |none=>rfl
     |some u=>
      have e':b=a:=hA b (by rw[q];simp);subst e'
      rw[hK (by rw[q];simp)] at e;cases e)
   have hM:Mod K mg (al1 s₁.heap H):=⟨hKb,nsK hns,⟨mb,nsK hb,hbb⟩,let ⟨mc,h1,h2⟩:=hlim;⟨mc,nsK h1,h2⟩⟩;have e0:ax9 P w K mg (al1 s₁.heap H) callerA [] s₁ H:=⟨rfl,hM,fun b o e=>dh2 e,et2 (cn5 _ _),trivial,fun b hb=>absurd (show b∈([]:List Addr) from hb) (by simp),hok,.of_eq hg⟩
   refine codeAny_mono ((F _ hKb (nsK hns)).run callerA [] s₁ H ⟨[.ref a],[]⟩ [.ref a] [.ref a] _ _ hr e0 (hbind s₁ (.ref a)) (.cons rfl .nil) (hsp H hO hS)) fun r s' h=> ?_
   cases r with
   |error e=>exact (hCX H e s' h).elim
   |ok fl=>
    cases fl with
    |next=>exact False.elim h
    |brk=>exact False.elim h
    |cont=>exact False.elim h
    |ret u=>
     obtain ⟨v,H',os,bare,un,hok',r',q⟩:=h;have q':v= .bl true:=q;subst q';obtain rfl:u=Value.bool true:=r';refine ⟨rfl,OldK.of_keep fun b o e=> ?_,os,bare⟩
     cases q:H b with
     |none=>exact un.keep b o e q (by intro z;exact absurd (show b∈([]:List Addr) from z) (by simp)) (by simp)
     |some u=>
      rcases hO b with z|⟨ob,xs,z⟩
      · rw[q] at z;cases z
      · have z2:=un.frzs b ob _ z;obtain ⟨e1,_⟩:=hok b _ z;obtain ⟨e2,_⟩:=hok' b _ z2;rw[e] at e1;cases e1;exact e2
 cases hk:K.lookup a with
 |some o=>
  have e:=KX a o hk;rw[ha] at e;cases e
  refine core (fun _=>none) (fun _=> .inl rfl) (.inr ⟨_,vs.toArray,_,hk,rfl,rfl,rfl,by rw[ec7,lenV];exact hl,by simpa using rv⟩) (fun b u z=>by have z':(none:Option HO)=some u:=z;cases z') (fun b z=>absurd rfl z) fun z=>absurd rfl z
 |none=>
  refine core (fun b=>if b=a then some (.frz {cls:= .type "list",data:= .seq vs.toArray} (.lst (ns.map V.int))) else none) (fun b=> ?_) (.inl (.inr ⟨{cls:= .type "list",data:= .seq vs.toArray},if_pos rfl⟩)) (fun b u z=> ?_) (fun b z=> ?_) fun _=>hk
  · by_cases hb:b=a
    · exact .inr ⟨_,_,if_pos hb⟩
    · exact .inl (if_neg hb)
  · by_cases hb:b=a
    · have z':=(if_pos hb).symm.trans z;cases z';subst hb;exact ⟨ha,by rw[eb8];exact hl,vs,_,rv,ha⟩
    · have z':=(if_neg hb).symm.trans z;cases z'
  · by_cases hb:b=a
    · exact hb
    · exact absurd (if_neg hb) z
end L2
namespace L2
open PySem PySem.Spec PyProof.Rows
theorem ea8 {l:PySem.W.OpenLaw}{n k:Nat}{q:Program}{loose:List Str}{XP:(Str->Option Value)->Heap->Prop}{YP:World->Heap->Prop}{d:DefRec}{K:Params->PySem.W.Frag}{CX:World->CXT}{sp:World->Sp}{x:Str}
   (hn:l.most=some n) (hn2:n<=sizeLine) (hdf:d.params.defaults=[]) (hr:m7 k callerA)
   (hY:∀(w:World) (h:Heap),YP w h->(K w.params).In h)
   (F:∀(w:World) (mg:Str->Option Value) (fa:Addr) (h:Heap),(K w.params).In h->h.Ns mainGlobals mg->mg d.name=some (.ref fa)->
     ∃fd:FuncData,(∀(s:Shared) (u:Value),BindsTo s fd ⟨[u],[]⟩ [(x,u)])/\
      ∀base:Heap,(K w.params).In base->base.Ns mainGlobals mg->n5 l.prog w (K w.params) mg base (CX w) k fa fd [x] (sp w))
   (hsp:∀(w:World) (H:Hp) (a:Addr) (ns:List Int),ns.length<=n->cz8 H->i5 (K w.params) H a (ns.map V.int)->sp w [.ref a] H (fun v _=>v= .bl true) fun _ _ _=>False)
   (hCX:∀(w:World) (H:Hp) (s:Shared) (e:Value) (s':Shared),CX w [] H s (fun _ _ _=>False) e s'->False):
   PySem.W.WalkO q loose XP YP l.row.toRowW d [] (fun f vs=>PySem.call f vs):=by
 refine Att.ds8 hn hdf fun w s₀ s₁ mg mb fa o pm cd doc a vs ns G Y ho hd hcd hmg hobj hints hlen hg=> ?_
 have KX:=hY w _ Y;obtain ⟨fd,hb,hF⟩:=F w mg fa _ KX G.T.g hmg
 exact cz9 KX G.T.g G.T.b G.T.builtins G.T.nolimit hg hobj hints (ee0 hlen hn2) hr hF hb (fun H hO hS=>hsp w H a ns hlen hO hS) fun H e s'=>hCX w H s₁ e s'
end L2
namespace L2
open PySem PySem.Spec PyProof.Rows
def au8 (s:Stmt)(j:Nat):Stmt:=match s with
 | .ClassDef _ _ _ body _ _ _ _ _ _ _=>body.getD j (.Pass ⟨0,0,0,0⟩)
 |_=> .Pass ⟨0,0,0,0⟩
def Y7 (s:Stmt):Arguments:=match s with
 | .FunctionDef _ a _ _ _ _ _ _ _ _=>a
 |_=>{posonlyargs:=[],args:=[],vararg:=none,kwonlyargs:=[],kw_defaults:=[],kwarg:=none,defaults:=[]}
def R7 (s:Stmt):List Stmt:=match s with
 | .FunctionDef _ _ b _ _ _ _ _ _ _=>b
 |_=>[]
def j6 (s:Stmt):Scope:=match s with
 | .FunctionDef _ _ _ _ _ _ sc _ _ _=>sc
 |_=>{kind:= .function,names:=[],isGenerator:=false,isCoroutine:=false}
abbrev y7:CXT:=fun _ _ _ _ _ _=>False
abbrev E0:XK:=fun _ _ _=>False
theorem ck0 {X:Cx}:aa4 y7 X E0:=fun _ _ _ _ _ _ _ h=>h.elim
structure x6 (K:PySem.W.Frag)(x qual:Str)(st:Stmt)(f:Addr)(fd:FuncData):Prop where
 ex:∃(oc:Value) (od:Option Addr) (kV doc pm:Value) (an:Option Addr) (cdv ct:Value) (osl:Array (Option Value)),
   fd=PySem.W.fnOf x qual (Y7 st) (R7 st) (j6 st) .none kV doc pm an cdv ct/\K.lookup f=some ⟨oc,od,.func fd,osl⟩/\PySem.W.codeIn K cdv qual=true
 kp:PySem.W.keepIn K (.ref f)=true
section
variable {P:Program} {w:World} {K:PySem.W.Frag} {mg:Str->Option Value} {base:Heap}
theorem x6.ok {x qual:Str}{st:Stmt}{f:Addr}{fd:FuncData}{N ps:List Str}{k:Nat}{sp:Sp}(F:x6 K x qual st f fd)(S:m9 N ps (j6 st))(len:∀vs H Q E,sp vs H Q E->vs.length=ps.length)
   (hbody:∀(cdv:Value) (A:Around) (outer:List Env) (s:Shared) (H:Hp) (vs:List V) (Q:VK) (E:XK),m7 k (A.deeper (envOfC qual (j6 st) s.heap.objs.size f cdv))->sp vs H Q E->
     ∃t,PSs (ah7 y7 P w K mg base N qual (j6 st) f cdv A outer s H E).nox (R7 st) t/\t {nx:=fun _ H'=>Q .non H',rt:=Q} (ac1 N vs) H):n5 P w K mg base y7 (k+1) f fd ps sp:=by
 obtain ⟨oc,od,kV,doc,pm,an,cdv,ct,osl,rfl,lk,hcd⟩:=F.ex
 refine df3 lk hcd S len fun A outer s H vs Q E hr hsp=> ?_
 obtain ⟨t,h,q⟩:=hbody cdv A outer s H vs Q E hr hsp;exact ⟨t,h.nox,q⟩
theorem x6.binds {x qual:Str}{st:Stmt}{f:Addr}{fd:FuncData}{ps:List Str}(F:x6 K x qual st f fd)
   (h:∀(kV doc pm:Value) (an:Option Addr) (cdv ct:Value) (us:List Value),us.length=ps.length->bindArgs (PySem.W.fnOf x qual (Y7 st) (R7 st) (j6 st) .none kV doc pm an cdv ct) ⟨us,[]⟩=pure (ps.zip us)):L6 K fd ps []:=by
 obtain ⟨oc,od,kV,doc,pm,an,cdv,ct,osl,rfl,lk,hcd⟩:=F.ex;exact .all (h kV doc pm an cdv ct)
theorem cq5 {x qual:Str}{st:Stmt}{f:Addr}{oc:Value}{od an:Option Addr}{osl:Array (Option Value)}{kV doc pm cdv ct:Value}(l:K.lookup f=some ⟨oc,od,.func (PySem.W.fnOf x qual (Y7 st) (R7 st) (j6 st) .none kV doc pm an cdv ct),osl⟩)
 (c:PySem.W.codeIn K cdv qual=true) (k:PySem.W.keepIn K (.ref f)=true):x6 K x qual st f (PySem.W.fnOf x qual (Y7 st) (R7 st) (j6 st) .none kV doc pm an cdv ct):=⟨⟨oc,od,kV,doc,pm,an,cdv,ct,osl,rfl,l,c⟩,k⟩
end
theorem O1 {A:Around}{k:Nat}(hr:m7 k A):A.units+1 < cLine:=el9 (Nat.add_le_add_left (by decide:1<=64) _) hr.units
theorem p9 {n:Nat}(h:n<=1000):n < sizeLine:=el9 h (by decide)
section
variable {X:Cx}
theorem pv (i:Nat){x:Str}{pos:Pos}(hN:X.N[i]? =some x:=by rfl)(hv:Vis X.env.scope x:=by first|exact Or.inl rfl|exact Or.inr (Or.inl rfl)|exact Or.inr (Or.inr rfl))(hd:(x==("__debug__":Str))=false:=by decide)
 (hcd:(x==("__classdict__":Str))=false:=by decide):PE X (.Name x pos) (dn2 i):=dn3 hN hv hd hcd
end
theorem n9 {A B:Prop}(h:B):if false=true then A else B:=by
 rw[if_neg ed9];exact h
theorem A8 {A B:Prop}(h:A):if true=true then A else B:=by
 rw[if_pos rfl];exact h
theorem Y8 {c A B:Prop}[Decidable c](h1:c->A)(h2:¬c->B):if c then A else B:=by
 by_cases h:c
 · rw[if_pos h];exact h1 h
 · rw[if_neg h];exact h2 h
theorem R8 {c A B:Prop}[Decidable c](hc:c)(h:B):if (!decide c)=true then A else B:=by
 rw[decide_eq_true hc];exact n9 h
def e8 (H H':Hp):Prop:=∀b o,H b=some o->H' b=some o
theorem e8.refl (H:Hp):e8 H H:=fun _ _ h=>h
theorem e8.trans {H H1 H2:Hp}(a:e8 H H1)(b:e8 H1 H2):e8 H H2:=fun c o h=>b c o (a c o h)
theorem e8.free {H H':Hp}(e:e8 H H'){l:Addr}(h:H' l=Option.none):H l=Option.none:=by
 cases q:H l with
 |none=>rfl
 |some o=>
  rw[e l o q] at h;cases h
theorem e8.seq {K:PySem.W.Frag}{H H':Hp}{a:Addr}{xs:List V}(e:e8 H H')(h:i5 K H a xs):i5 K H' a xs:=by
 rcases h with (h|⟨o,h⟩)|h
 · exact .inl (.inl (e _ _ h))
 · exact .inl (.inr ⟨o,e _ _ h⟩)
 · exact .inr h
section
variable {κ:Type} [DecidableEq κ]
theorem au9:∀{l:List κ} {k:κ},l.Nodup->¬k∈l->(l++[k]).Nodup
 |[],k,_,_=>by simp
 |a::r,k,h,hk=>by
  obtain ⟨h1,h2⟩:=eg7.mp h;show (a::(r++[k])).Nodup;refine eg7.mpr ⟨fun m=> ?_,au9 h2 fun m=>hk (ec8.mpr (Or.inr m))⟩
  rcases ed8.mp m with q|q
  · exact h1 q
  · exact hk (ec8.mpr (Or.inl (eh0.mp q).symm))
end
end L2
namespace L2
open PySem PySem.Spec PyProof.Rows
def U3 (X:Cx)(N:List Str)(scope:Scope)(cl:List (Str×Addr))(C:Addr)(s0:Shared)(H0:Hp)(ex:List Addr):Cx:=
 {X with N:=N,s₀:=s0,H₀:=H0,env:=compEnvC scope cl C X.env,outer:=X.stack,stack:=X.stack,ex:=ex,fn:=fun _=>false,pn:=[],xe:=fun _ _=>False}
def bc1 (nl:Nat)(fr:List Nat)(σ:St):St:=ed1 nl none++fr.map fun j=>(σ[j]?).join
def B9 (env:Env):List (Str×NameKind)->List (Str×Addr)->List (Str×Addr)
 |[],cs=>cs
 |(n,k)::r,cs=>B9 env r (if (k==NameKind.free)=true then (n,(env.cells.lookup n).getD 0)::cs else cs)
theorem bc2 (env:Env):∀(ns:List (Str×NameKind)) (cs:List (Str×Addr)),(∀p∈ns,p.2= .free->∃c,env.cells.lookup p.1=some c)->(∀y c,cs.lookup y=some c->env.cells.lookup y=some c)->
   ∀y c,(B9 env ns cs).lookup y=some c->env.cells.lookup y=some c
 |[],cs,_,h,y,c,e=>h y c e
 |(n,k)::r,cs,hn,h,y,c,e=>by
  unfold B9 at e;refine bc2 env r _ (fun p hp=>hn p (ec9 _ hp)) ?_ y c e;intro z d ez
  split at ez
  · rename_i hk;rw[eh5] at ez
    cases hz:z==n with
    |true=>
     rw[hz] at ez;have hzn:z=n:=eq_of_beq hz;subst hzn
     have hkf:k= .free:=by simpa using hk
     obtain ⟨c',hc'⟩:=hn (z,k) ec5 hkf;have hc':env.cells.lookup z=some c':=hc';rw[hc'] at ez;rw[hc']
     simpa using ez
    |false=>
     rw[hz] at ez;exact h z d ez
  · exact h z d ez
theorem aw7 (env:Env):∀(ns:List (Str×NameKind)) (cs:List (Str×Addr)) (y:Str),(∃c,cs.lookup y=some c)->∃c,(B9 env ns cs).lookup y=some c
 |[],cs,y,h=>h
 |(n,k)::r,cs,y,⟨c,h⟩=>by
  unfold B9;refine aw7 env r _ y ?_
  split
  · rw[eh5]
    cases hz:y==n with
    |true=>exact ⟨_,rfl⟩
    |false=>exact ⟨c,h⟩
  · exact ⟨c,h⟩
theorem am0 (env:Env):∀(ns:List (Str×NameKind)) (cs:List (Str×Addr)) (p:Str×NameKind),p∈ns->p.2= .free->∃c,(B9 env ns cs).lookup p.1=some c
 |[],cs,p,hp,_=>by simp at hp
 |(n,k)::r,cs,p,hp,hk=>by
  unfold B9
  rcases ec8.mp hp with e|hp
  · subst e;have hk:k= .free:=hk;subst hk;refine aw7 env r _ n ?_;rw[if_pos (by rfl),eh5];exact ⟨(em9 n env.cells).getD 0,by simp⟩
  · exact am0 env r _ p hp hk
theorem ar4 (env:Env):∀(ns:List (Str×NameKind)) (cs:List (Str×Addr)),(∀p∈ns,p.2= .free->∃c,env.cells.lookup p.1=some c)->
   (forIn ns cs (fun (x:Str×NameKind) (r:List (Str×Addr))=>if (x.2==NameKind.free)=true then (do let a <-cellOf env x.1;pure (ForInStep.yield ((x.1,a)::r))) else pure (ForInStep.yield r)):Sem (List (Str×Addr)))=pure (B9 env ns cs)
 |[],cs,_=>rfl
 |(n,k)::r,cs,hn=>by
  have ih:=fun cs'=>ar4 env r cs' fun p hp=>hn p (ec9 _ hp)
  rw[em4];unfold B9
  by_cases hk:(k==NameKind.free)=true
  · obtain ⟨c,hc⟩:=hn (n,k) ec5 (by simpa using hk);have hc:env.cells.lookup n=some c:=hc;rw[if_pos hk,if_pos hk]
    have e1:cellOf env n=pure c:=by unfold cellOf;rw[hc]
    rw[e1,hc];exact ih _
  · rw[if_neg hk,if_neg hk];exact ih _
theorem ap7 {scope:Scope}{env:Env}(h:∀p∈scope.names,p.2= .free->∃c,env.cells.lookup p.1=some c):closureFor scope env=pure (B9 env scope.names []):=by
 have e:=ar4 env scope.names [] h;unfold closureFor;show (forIn scope.names [] _ >>=_)=_;have e2:(forIn scope.names ([]:List (Str×Addr)) (fun (x:Str×NameKind) (r:List (Str×Addr))=>match x with|(name,kind)=>(if (kind==NameKind.free)=true then (do let a <-cellOf env name;pure PUnit.unit;pure (ForInStep.yield ((name,a)::r))) else (do pure PUnit.unit;pure (ForInStep.yield r)))):Sem (List (Str×Addr)))=pure (B9 env scope.names []):=e
 first
   |exact (congrArg (fun z=>z >>=fun cs=>pure cs) e2)
   |(rw[show (forIn scope.names ([]:List (Str×Addr)) _:Sem (List (Str×Addr)))=pure (B9 env scope.names []) from e];rfl)
section
variable {X:Cx}
def ck1 (X:Cx)(ifs:List Expr)(t:TT):Prop:=
 ∀(pins:List (Addr×Obj)) (s:Shared) (σ:St) (H:Hp) (Q:Bool->Hp->Prop),i9 X pins σ H s->t σ H Q->
  wpAny (model X.prog X.w) X.A (forIn ifs true fun c r=>if r=true then do let ok <-isTrue c X.env (eval c X.env);pure (ForInStep.yield ok) else pure (ForInStep.yield r)) (TP X pins σ Q) X.xe s
def dz4:TT:=fun _ H Q=>Q true H
theorem B7:ck1 X [] dz4:=fun pins s σ H Q I h=>by
 rw[eu5];exact wpAny_pure ⟨H,I,h⟩
theorem br9 {prog:Program}{w:World}{A:Around}{R:Result->Shared->Prop}{s:Shared}{elt target iter:Expr}{ifs:List Expr}{scope:Scope}{pos:Pos}{it acc:Value}{env:Env}(I:Nat->Shared->Prop)
   (turn:∀n s,I n s->wpAny (model prog w) A (pyNext it) (fun r s1=>match r with
     |none=>R (.ok .next) s1
     |some v=>wpAny (model prog w) A (letOwnedTupleGo target it v) (fun _ s2=>wpAny (model prog w) A (assign target env v) (fun _ s3=>
         wpAny (model prog w) A (forIn ifs true fun c r=>if r=true then do let ok <-isTrue c env (eval c env);pure (ForInStep.yield ok) else pure (ForInStep.yield r)) (fun ok s4=>
           if ok=true then wpAny (model prog w) A (eval elt env) (fun x s5=>
             wpAny (model prog w) A (call (.builtin "list.append") [acc,x]) (fun _ s6=>∃m,m < n/\I m s6) (fun _ _=>False) s5) (fun _ _=>False) s4
           else ∃m,m < n/\I m s4) (fun _ _=>False) s3) (fun _ _=>False) s2) (fun _ _=>False) s1) (fun _ _=>False) s)
   (n:Nat) (h:I n s):
   codeAny (model prog w) A (.compLoop (.ListComp elt [⟨target,iter,ifs,0⟩] scope pos) 0 it acc env) R s:=by
 refine codeAny_loop rfl I (fun n s hI=> ?_) n h;show wpAny _ A ((compTurn (.ListComp elt [⟨target,iter,ifs,0⟩] scope pos) 0 it acc env).onRaise (fun x=>do noteFrame x env;theTreesLotGoes x)) _ _ s;refine wpAny_noted ?_;rw[compTurn_list];refine wpAny_bind (wpAny_standAt (wpAny_bind (wpAny_mono (turn n s hI) (fun r s1 h1=> ?_) fun _ _ f=>f.elim)))
 cases r with
 |none=>exact wpAny_pure h1
 |some v=>
  refine wpAny_bind (wpAny_mono h1 (fun _ s2 h2=> ?_) fun _ _ f=>f.elim);refine wpAny_bind (wpAny_mono h2 (fun _ s3 h3=>wpAny_bind (wpAny_mono h3 (fun ok s4 h4=> ?_) fun _ _ f=>f.elim)) fun _ _ f=>f.elim)
  cases ok with
  |false=>exact wpAny_pure ⟨rfl,h4⟩
  |true=>
   exact wpAny_bind (wpAny_bind (wpAny_mono h4 (fun x s5 h5=>wpAny_bind (wpAny_mono h5 (fun _ s6 h6=>wpAny_pure (wpAny_pure ⟨rfl,h6⟩)) fun _ _ f=>f.elim)) fun _ _ f=>f.elim))
def bc3 (J:It)(g:TG)(tc:TT)(te:TE)(Q:VK)(σ0:St)(H0:Hp):Prop:=∃W:Nat->Nat->List V->St->Hp->Prop,(∃m,W 0 m [] σ0 H0)/\∀i m ys σ' H',W i m ys σ' H'->
 (J.stop i H'/\∀D,H' D=none->Q (.ref D) (i8 H' D (.lst ys)))\/
 (J.go i H'/\∃N:List V->St->Hp->Prop,(∀ys' σ2 H2,N ys' σ2 H2->∃m',m' < m/\W (i+1) m' ys' σ2 H2)/\∀x H2,J.yld i H' x H2->g x σ' H2 fun σ2 H3=>tc σ2 H3 fun b H4=>
   if b=true then te σ2 H4 fun y H5=>ys.length < sizeLine/\N (ys++[y]) σ2 H5 else N ys σ2 H4)
def ck2 (nl:Nat)(fr:List Nat)(wi:TI)(g:TG)(tc:TT)(te:TE):TE:=fun σ H Q=>wi σ H fun J H1=>bc3 J g tc te Q (bc1 nl fr σ) H1
structure ar5 (X:Cx)(N:List Str)(nl:Nat)(fr:List Nat)(scope:Scope):Prop where
 cell:∀y∈scope.names,y.2≠.cell
 kind:scope.kind= .function
 names:∀y∈scope.names,y.2= .local->scope.names.lookup y.1=some .local
 free:∀p∈scope.names,p.2= .free->X.env.kindOf p.1=some .cell\/X.env.kindOf p.1=some .free
 len:N.length=nl+fr.length
 fr:∀(k j:Nat),fr[k]? =some j->∃y,N[nl+k]? =some y/\X.N[j]? =some y/\Vis X.env.scope y/\scope.names.lookup y=some .free
theorem Y9 {env:Env}:∀{names:List (Str×NameKind)} {x:Str} {k:NameKind},(names.map fun (n,k)=>if (k==NameKind.free&&env.scope.kind== .function&&env.kindOf n==some .cell) then (n,NameKind.cell) else (n,k)).lookup x=some k->
   k= .cell\/k= .free->(∀y∈names,y.2≠.cell)->∃p∈names,p.1=x/\p.2= .free
 |[],_,_,h,_,_=>by simp at h
 |(n,kn)::r,x,k,h,hk,hc=>by
  have ih:=@Y9 env r x k;rw[eg2] at h;have hcn:kn≠.cell:=hc (n,kn) ec5
  have hr:∀y∈r,y.2≠.cell:=fun y hy=>hc y (ec9 _ hy)
  cases hx:x==n with
  |true=>
   have hxn:x=n:=eq_of_beq hx
   by_cases hcc:(kn==NameKind.free&&env.scope.kind== .function&&env.kindOf n==some .cell)=true
   · refine ⟨(n,kn),ec5,hxn.symm,?_⟩;simp only[ef7] at hcc
     simpa using hcc.1.1
   · dsimp only at h
     rw[if_neg hcc,eh5,hx] at h;have hkk:kn=k:=Option.some.inj h;subst hkk
     rcases hk with z|z
     · exact absurd z hcn
     · exact ⟨(n,kn),ec5,hxn.symm,z⟩
  |false=>
   by_cases hcc:(kn==NameKind.free&&env.scope.kind== .function&&env.kindOf n==some .cell)=true
   · dsimp only at h
     rw[if_pos hcc,eh5,hx] at h;obtain ⟨p,hp,q⟩:=ih h hk hr;exact ⟨p,ec9 _ hp,q⟩
   · dsimp only at h
     rw[if_neg hcc,eh5,hx] at h;obtain ⟨p,hp,q⟩:=ih h hk hr;exact ⟨p,ec9 _ hp,q⟩
theorem Y3 {env:Env}:∀{names:List (Str×NameKind)} {x:Str},names.lookup x=some .free->
   (names.map fun (n,k)=>if (k==NameKind.free&&env.scope.kind== .function&&env.kindOf n==some .cell) then (n,NameKind.cell) else (n,k)).lookup x=some .cell\/
   (names.map fun (n,k)=>if (k==NameKind.free&&env.scope.kind== .function&&env.kindOf n==some .cell) then (n,NameKind.cell) else (n,k)).lookup x=some .free
 |[],_,h=>by simp at h
 |(n,kn)::r,x,h=>by
  have ih:=@Y3 env r x;rw[eg2]
  dsimp only
  cases hx:x==n with
  |true=>
   rw[eh5,hx] at h;have hkn:kn= .free:=Option.some.inj h
   by_cases hcc:(kn==NameKind.free&&env.scope.kind== .function&&env.kindOf n==some .cell)=true
   · rw[if_pos hcc,eh5,hx];exact .inl rfl
   · rw[if_neg hcc,eh5,hx];exact .inr (congrArg some hkn)
  |false=>
   rw[eh5,hx] at h
   by_cases hcc:(kn==NameKind.free&&env.scope.kind== .function&&env.kindOf n==some .cell)=true
   · rw[if_pos hcc,eh5,hx];exact ih h
   · rw[if_neg hcc,eh5,hx];exact ih h
theorem E4.track {P:Program}{w:World}{H:Hp}{h:Heap}{a:Addr}{o:HO}(x:E4 P w H h)(hn:H a=none)(new:A5 P w (i8 H a o) h a o):E4 P w (i8 H a o) h:=fun b u e=>by
 by_cases hb:b=a
 · subst hb;rw[c9] at e;cases e;exact new
 · rw[i6 hb] at e
   exact (x b u e).stay (fun c v _ q=>q) (fun c q=>by rw[i6 (i4 q hn)];exact q) fun c xs q=>by rw[i6 (i4 q hn)];exact q
theorem bl6 {elt tg iter:Expr}{ifs:List Expr}{scope:Scope}{pos:Pos}{wi:TI}{g:TG}{tc:TT}{te:TE}{N:List Str}{nl:Nat}{fr:List Nat}
   (hc:X.calm=true) (hi:PI X tg iter wi) (hg:∀cl C s0 H0 ex,PG (U3 X N scope cl C s0 H0 ex) tg g) (ht:∀cl C s0 H0 ex,ck1 (U3 X N scope cl C s0 H0 ex) ifs tc)
   (he:∀cl C s0 H0 ex,PE (U3 X N scope cl C s0 H0 ex) elt te) (ok:ar5 X N nl fr scope)
   {RR:Value->Addr->Result->Shared->Prop} {pins:List (Addr×Obj)} {s:Shared} {σ:St} {H:Hp} {Q:VK} (I:i9 X pins σ H s) (h:ck2 nl fr wi g tc te σ H Q)
   (hRR:∀D C s' H',i9 X pins σ H' s'->Q (.ref D) H'->al3 X pins H' C->(∃m,s'.heap.Ns C m)->RR (.ref D) C (.ok .next) s'):
   wpAny (model X.prog X.w) X.A (eval iter X.env) (fun x s1=>wpAny (model X.prog X.w) X.A (pyIter x) (fun it s2=>wpAny (model X.prog X.w) X.A (newList []) (fun acc s3=>
     wpAny (model X.prog X.w) X.A (newFunctionEnv scope X.env.globals (B9 X.env scope.names []) [] X.env.qual none .none (some X.env)) (fun cenv s4=>
       codeAny (model X.prog X.w) X.A (.compStart (.ListComp elt [⟨tg,iter,ifs,0⟩] scope pos) 0 it acc {cenv with scope:=relabel scope X.env}) (RR acc cenv.locals) s4) X.xe s3) X.xe s2) X.xe s1) X.xe s:=by
 refine r6 (hi pins s σ H _ I h) fun v s1 h1=>r6 h1 fun itv s2 h2=> ?_
 obtain ⟨it,fp,tn,J,H2,rfl,I2,T,st2,f2,W,⟨m0,w0⟩,turn⟩:=h2;refine wpAny_newObj_type (wpAny_newFunctionEnv ok.cell (by intro y hy;simp at hy) (fun h1 hns1 hsb1=> ?_) ok.kind)
 dsimp only at hns1 hsb1 ⊢
 generalize hHH:s2.heap.push {cls:= .type "list",dict:=none,data:= .seq ([]:List Value).toArray}=HH at hns1 hsb1 ⊢
 have hC:HH.objs.size=s2.heap.objs.size+1:=by rw[<-hHH,Heap.size_push]
 have hDC:s2.heap.objs.size≠HH.objs.size:=by rw[hC];exact ed2 (en9 _)
 have hCle:s2.heap.objs.size<=HH.objs.size:=by rw[hC];exact ek2 _
 have below:∀b,b < s2.heap.objs.size->b≠HH.objs.size/\b≠s2.heap.objs.size:=fun b hb=>⟨by rw[hC];exact ed2 (ek0 hb),ed2 hb⟩
 have old:∀b o,s2.heap.get? b=some o->h1.get? b=some o:=fun b o e=>hsb1.extBut b o (below b (Heap.lt_size e)).1 (Heap.get?_push_of_some _ (hHH▸Heap.get?_push_of_some _ e))
 have hacc:h1.get? s2.heap.objs.size=some {cls:= .type "list",data:= .seq ([]:List Value).toArray}:=hsb1.extBut _ _ hDC (Heap.get?_push_of_some _ (hHH▸Heap.get?_push_size _ rfl))
 have fplt:∀b∈fp,b < s2.heap.objs.size:=fun b hb=>by obtain ⟨o,e,_⟩:=T.obj 0 _ st2 b hb;exact Heap.lt_size e
 generalize hXd:U3 X N scope (B9 X.env scope.names []) HH.objs.size s2 H2 fp=X'
 have hfreeC:∀p∈scope.names,p.2= .free->∃c,X.env.cells.lookup p.1=some c:=fun p hp hf=>I.ok.has p.1 (ok.free p hp hf)
 have cellsSub:∀y c,(B9 X.env scope.names []).lookup y=some c->X.env.cells.lookup y=some c:=bc2 X.env scope.names [] hfreeC (fun y c e=>by simp at e)
 have cellLt:∀y c,X.env.cells.lookup y=some c->c < s2.heap.objs.size:=fun y c e=>by obtain ⟨v,z⟩:=I2.cell y c e;exact z.lt
 have ok':X'.Ok:=by
   rw[<-hXd]
   refine ⟨I.ok.mod,?_,I.ok.glob,I.ok.blt,hCle,fun x y c e1 e2=>I.ok.inj x y c (cellsSub x c e1) (cellsSub y c e2),fun x hx=> ?_,fun x c hf=>(by cases hf),I.ok.hd,I.ok.frames,.inl rfl,
     fun b hb=>⟨(below b (fplt b hb)).1,fun x c e=>(f2 b hb).2.2.2.2.1 x c (cellsSub x c e)⟩,I2.bs,ee0 I.ok.bsz I2.sz,fun b o e hb=> ?_,fun b hb hfs=> ?_,I2.stack,I2.stkFree⟩
   · show (relabel scope X.env).kind= .function;exact ok.kind
   · have hx':∃p∈scope.names,p.1=x/\p.2= .free:=by
       rcases hx with z|z
       · exact Y9 z (.inl rfl) ok.cell
       · exact Y9 z (.inr rfl) ok.cell
     obtain ⟨p,hp,rfl,hpf⟩:=hx';exact am0 X.env scope.names [] p hp hpf
   · rcases (f2 b hb).2.2.2.1 with z|z
     · exact I.ok.noex b o e z
     · exact absurd (ee9 (Heap.lt_size e) (ee0 I.ok.bsz z)) (eh8 _)
   · rcases ec8.mp (I2.stkSub b hfs) with z|z
     · exact (f2 b hb).2.1 z
     · exact (f2 b hb).2.2.1 z
 have hX'd:X'.env.locals=HH.objs.size:=by rw[<-hXd];rfl
 have hX'c:X'.env.cells=B9 X.env scope.names []:=by rw[<-hXd];rfl
 have hX'pn:X'.pn=[]:=by rw[<-hXd];rfl
 have hX'ex:X'.ex=fp:=by rw[<-hXd];rfl
 have hX's0:X'.s₀=s2:=by rw[<-hXd];rfl
 have hX'H0:X'.H₀=H2:=by rw[<-hXd];rfl
 have hX'fs:X'.fs=C5 X.stack:=by rw[<-hXd];rfl
 have hX'xe:X'.xe=fun _ _=>False:=by rw[<-hXd];rfl
 have hX'A:X'.A=X.A:=by rw[<-hXd];rfl
 have hX'P:X'.prog=X.prog:=by rw[<-hXd];rfl
 have hX'w:X'.w=X.w:=by rw[<-hXd];rfl
 have hX'K:X'.K=X.K:=by rw[<-hXd];rfl
 have hX'calm:X'.calm=true:=by rw[<-hXd];exact hc
 have hX'env:X'.env=compEnvC scope (B9 X.env scope.names []) HH.objs.size X.env:=by rw[<-hXd];rfl
 have I':i9 X' [] (bc1 nl fr σ) H2 {s2 with heap:=h1,toks:=s2.toks+([]:List (Str×Value)).length}:=by
   refine ⟨ok',by rw[hX's0],I2.bare,?_,?_,fun x c e=> ?_,?_,fun x c e=> ?_,fun p hp=> ?_,?_,?_⟩
   · rw[hX'fs,hX'ex,hX'H0,hX's0];exact Un.kept old
   · obtain ⟨m,hn,hl⟩:=I2.loc;rw[hX'd];refine ⟨_,hns1,fun i x v e1 e2 e3=> ?_⟩
     have hN':N[i]? =some x:=by rw[<-hXd] at e1;exact e1
     unfold bc1 at e2
     have hi:¬i < nl:=fun hlt=>by
       rw[ef3 (by simpa using hlt),et3,if_pos hlt] at e2;cases e2
     rw[ed6 (by simpa using hi),ei3,ec1] at e2
     cases ej:fr[i - nl]? with
     |none=>rw[ej] at e2;cases e2
     |some j=>
      rw[ej] at e2;obtain ⟨y,y1,y2,y3,y4⟩:=ok.fr (i - nl) j ej
      have hii:nl+(i - nl)=i:=by omega
      rw[hii,hN'] at y1;have hxy:x=y:=Option.some.inj y1;subst hxy;have e2':(σ[j]?).join=some v:=Option.some.inj e2
      have e2'':σ[j]? =some (some v):=by
        cases hσ:σ[j]? with
        |none=>rw[hσ] at e2';cases e2'
        |some z=>rw[hσ] at e2';exact congrArg some e2'
      obtain ⟨u,r,l⟩:=hl j x v y2 e2'' y3;have hkX:=ok.free (x,.free) (PySem.mem_of_lookup y4) rfl;refine ⟨u,r,.inr ⟨?_,?_⟩⟩
      · rw[hX'env]
        rcases Y3 (env:=X.env) y4 with z|z
        · exact .inl z
        · exact .inr z
      · rcases l with ⟨k1,_⟩|⟨_,c,ec,hcell⟩
        · rcases hkX with z|z
          · rw[z] at k1;cases k1
          · rw[z] at k1;cases k1
        · obtain ⟨c',ec'⟩:=am0 X.env scope.names [] (x,.free) (PySem.mem_of_lookup y4) rfl
          have:c'=c:=by
            have q:=cellsSub x c' ec';rw[ec] at q;exact (Option.some.inj q).symm
          subst this;refine ⟨c',by rw[hX'c];exact ec',?_⟩;obtain ⟨oc,ho,hd⟩:=hcell;exact ⟨oc,old _ _ ho,hd⟩
   · rw[hX'c] at e;obtain ⟨v,oc,ho,hd⟩:=I2.cell x c (cellsSub x c e);exact ⟨v,oc,old _ _ ho,hd⟩
   · rw[hX'd];exact I2.hok.fresh hCle
   · rw[hX'c] at e;exact I2.freeC x c (cellsSub x c e)
   · rw[hX'pn] at hp;simp at hp
   · rw[hX'P,hX'w];exact I2.hok.kept old
   · unfold bc1
     have:X'.N=N:=by rw[<-hXd];rfl
     rw[this,ok.len,ec2,ei3,eb8]
 have Dn:∀{H':Hp} {pins'} {s':Shared} {σ'},i9 X' pins' σ' H' s'->H' s2.heap.objs.size=none->∀o,s'.heap.get? s2.heap.objs.size=some o->(∀v,o.data≠.cell v)->i9 X' [(s2.heap.objs.size,o)] σ' H' s':=fun {H' pins' s' σ'} I3 hD o ho hnc=>
   I3.pins_of fun p hp=>by
     have e:p=(s2.heap.objs.size,o):=by simpa using hp
     subst e;refine ⟨ho,hD,by rw[hX'd];exact hDC,?_,hnc⟩;rw[hX'fs];intro hb
     rcases ec8.mp (I2.stkSub _ hb) with z|z
     · exact absurd (z▸I2.lt) (eh8 _)
     · exact I2.nofs (ec6 _) z
 have loop:∀s₃:Shared,s₃={s2 with heap:=h1,toks:=s2.toks+([]:List (Str×Value)).length}->
     codeAny (model X.prog X.w) X.A (.compLoop (.ListComp elt [⟨tg,iter,ifs,0⟩] scope pos) 0 (.ref it) (.ref s2.heap.objs.size) (compEnvC scope (B9 X.env scope.names []) HH.objs.size X.env)) (RR (.ref s2.heap.objs.size) HH.objs.size) s₃:=by
   rintro s₃ rfl
   refine br9 (fun n s'=>∃(i:Nat) (σ':St) (H':Hp) (ys:List V) (its:List Value) (k:Nat),i9 X' [(s2.heap.objs.size,{cls:= .type "list",data:= .seq its.toArray k})] σ' H' s'/\o8 ys its/\ys.length<=sizeLine/\tn i s'.heap/\(∀b∈fp,H' b=none)/\W i n ys σ' H')
     ?_ m0 ⟨0,_,H2,[],[],0,Dn I' (I2.hok.fresh (ec6 _)) _ hacc (fun v z=>by cases z),.nil,ee2 _,T.keep 0 _ _ st2 fun b hb o e=>old b o e,fun b hb=>(f2 b hb).1,w0⟩
   rintro n s3 ⟨i,σ3,H3,ys,its,k,I3,rv,hyl,st3,fr3,w3⟩;have pinD:=I3.pin (s2.heap.objs.size,{cls:= .type "list",data:= .seq its.toArray k}) (by rw[hX'pn];exact ed4 _ ec5)
   have stat:∀{o:Obj} {H':Hp},(∀b∈fp,H' b=none)->∀b∈fp,al3 X' [(s2.heap.objs.size,o)] H' b:=fun {o H'} hn b hb=>by
     refine ⟨hn b hb,by rw[hX'd];exact (below b (fplt b hb)).1,fun z=>ok'.exfs b (by rw[hX'ex];exact hb) z,.inl (by rw[hX'ex];exact hb),fun x c e=>by rw[hX'c] at e;exact (f2 b hb).2.2.2.2.1 x c (cellsSub x c e),fun p hp=> ?_⟩;rw[hX'pn] at hp
     have e:p=(s2.heap.objs.size,o):=by simpa using hp
     subst e
     exact fun z=>(below b (fplt b hb)).2 z.symm
   rcases turn i n ys σ3 H3 w3 with ⟨stop,qn⟩|⟨go,Nx,hNx,step⟩
   · have dn:=T.done X' hX'P hX'w hX'K hX'calm i _ s3 σ3 H3 (fun _ _=>False) I3 (stat fr3) st3 stop;rw[hX'A] at dn
     refine r6 dn fun r s4 ⟨hr,I4⟩=> ?_
     subst hr;have pinE:=I4.pin (s2.heap.objs.size,{cls:= .type "list",data:= .seq its.toArray k}) (by rw[hX'pn];exact ed4 _ ec5)
     have ub:Un (C5 X.stack) fp H2 H3 s2.heap s4.heap:=by
       have:=I4.base;rw[hX'fs,hX'ex,hX'H0,hX's0] at this;exact this
     have hok4:E4 X.prog X.w H3 s4.heap:=by have:=I4.hok;rw[hX'P,hX'w] at this;exact this
     have nD:∀b u,H3 b=some u->b≠s2.heap.objs.size:=fun b u e z=>by rw[z,pinE.2.1] at e;cases e
     have u2:Un (C5 X.stack) fp H2 (i8 H3 s2.heap.objs.size (.lst ys)) s2.heap s4.heap:=
       ⟨ub.keep,ub.slot,fun b o e n' hx=>by rw[i6 (ed2 (Heap.lt_size e))];exact ub.free b o e n' hx,ub.there,
         fun b xs e=>by have:=ub.tups b xs e;rw[i6 (nD b _ this)];exact this,fun b o u e=>by have:=ub.frzs b o u e;rw[i6 (nD b _ this)];exact this,
         fun b ps e=>by obtain ⟨more,z⟩:=ub.tbls b ps e;exact ⟨more,by rw[i6 (nD b _ z)];exact z⟩⟩
     have I5:i9 X pins σ (i8 H3 s2.heap.objs.size (.lst ys)) s4:=by
       refine I2.call' (by rw[I4.os,hX's0]) u2 ?_ I4.bare fun b hb=>⟨(f2 b hb).2.2.2.1,(f2 b hb).2.1,(f2 b hb).2.2.2.2.1,(f2 b hb).2.2.2.2.2⟩
       exact E4.track hok4 pinE.2.1 ⟨hyl,its,k,rv,pinE.1⟩
     refine hRR _ _ s4 _ I5 (qn _ pinE.2.1) (I2.fpOk hCle ?_) ?_
     · rw[i6 (Ne.symm hDC)];have:=I4.free;rw[hX'd] at this;exact this
     · obtain ⟨m,hn,_⟩:=I4.loc;rw[hX'd] at hn;exact ⟨m,hn⟩
   · have im:=T.item X' hX'P hX'w hX'K hX'calm i _ s3 σ3 H3 (fun _ _=>False) I3 (stat fr3) st3 go;rw[hX'A] at im
     refine r6 im fun r s4 ⟨u,hr,h4⟩=> ?_
     subst hr
     refine r6 h4 fun _ s5 ⟨x,H5,I5,r5,y5,st5,fr5⟩=> ?_
     have I5':=I5.pinned (stat fr5) (T.obj _ _ st5);have gg:=hg (B9 X.env scope.names []) HH.objs.size s2 H2 fp;rw[hXd] at gg;have gg:=gg _ s5 σ3 H5 x u _ I5' r5 (step x H5 y5);rw[hX'A,hX'P,hX'w,hX'xe,hX'env] at gg
     refine r6 gg fun _ s6 ⟨σ6,H6,I6,q6⟩=> ?_
     have tt:=ht (B9 X.env scope.names []) HH.objs.size s2 H2 fp;rw[hXd] at tt;have tt:=tt _ s6 σ6 H6 _ I6 q6;rw[hX'A,hX'P,hX'w,hX'xe,hX'env] at tt
     refine r6 tt fun ok7 s7 ⟨H7,I7,q7⟩=> ?_
     have again:∀{s8:Shared} {σ8:St} {H8:Hp} {ys8:List V} {its8:List Value} {k8:Nat},i9 X' ([(s2.heap.objs.size,{cls:= .type "list",data:= .seq its8.toArray k8})]++ad4 fp s5.heap) σ8 H8 s8->o8 ys8 its8->ys8.length<=sizeLine->Nx ys8 σ8 H8->
         ∃m,m < n/\∃(i:Nat) (σ':St) (H':Hp) (ys:List V) (its:List Value) (k:Nat),i9 X' [(s2.heap.objs.size,{cls:= .type "list",data:= .seq its.toArray k})] σ' H' s8/\o8 ys its/\ys.length<=sizeLine/\tn i s8.heap/\(∀b∈fp,H' b=none)/\W i m ys σ' H':=
       fun {s8 σ8 H8 ys8 its8 k8} I8 rv8 hl8 n8=>by
         obtain ⟨m',hm,w8⟩:=hNx ys8 σ8 H8 n8;refine ⟨m',hm,i+1,σ8,H8,ys8,its8,k8,I8.unpinned,rv8,hl8,T.keep _ _ _ st5 fun b hb o e=>(I8.pin (b,o) (ed4 _ (ed4 _ (ac0 hb e)))).1,fun b hb=> ?_,w8⟩;obtain ⟨o,e,d⟩:=T.obj _ _ st5 b hb;exact (I8.pin (b,o) (ed4 _ (ed4 _ (ac0 hb e)))).2.1
     cases ok7 with
     |false=>
      rw[if_neg ed9] at q7 ⊢;exact again I7 rv hyl q7
     |true=>
      rw[if_pos rfl] at q7 ⊢;have ee:=he (B9 X.env scope.names []) HH.objs.size s2 H2 fp;rw[hXd] at ee;have ee:=ee _ s7 σ6 H7 _ I7 q7;rw[hX'A,hX'P,hX'w,hX'xe,hX'env] at ee
      refine r6 ee fun yv s8 ⟨y,H8,I8,r8,hyl8,q8⟩=> ?_
      have pin8:=I8.pin (s2.heap.objs.size,{cls:= .type "list",data:= .seq its.toArray k}) (ed4 _ (eg0 _ ec5));refine wpAny_list_append_plain (items:=its.toArray) ⟨k,pin8.1⟩ (fun h9 hp9 hs9=> ?_) (by rw[ec7,<-rv.length];exact hyl);obtain ⟨k9,e9⟩:=hp9
      have I9:i9 X' (ad4 fp s5.heap) σ6 H8 s8:=I8.pins_of fun p hp=>I8.pin p (ed4 _ (ed4 _ hp))
      have I9':i9 X' (ad4 fp s5.heap) σ6 H8 {s8 with heap:=h9,toks:=s8.toks}:=by
        refine I9.turned (t':=s8.toks) (it:=s2.heap.objs.size) (fun b o hb e=>hs9.extBut b o hb e) pin8.2.1 (by rw[hX'd];exact hDC) (.inr (by rw[hX's0];exact ec6 _)) (fun x c e z=> ?_) fun p hp z=> ?_
        · rw[hX'c] at e;exact absurd (z▸cellLt x c (cellsSub x c e)) (eh8 _)
        · rw[hX'pn] at hp;obtain ⟨hb,_⟩:=bk3 (by simpa using hp);exact absurd (z▸fplt _ hb) (eh8 _)
      have e9':h9.get? s2.heap.objs.size=some {cls:= .type "list",data:= .seq (its++[yv]).toArray k9}:=by rw[e9];simp
      refine again (ys8:=ys++[y]) (its8:=its++[yv]) (k8:=k9) ?_ (o8.append rv (.cons r8 .nil)) (by rw[ec2];exact hyl8) q8
      refine I9'.pins_of fun p hp=> ?_
      rcases ed8.mp hp with z|z
      · have e:p=(s2.heap.objs.size,{cls:= .type "list",data:= .seq (its++[yv]).toArray k9}):=by simpa using z
        subst e;exact ⟨e9',pin8.2.1,pin8.2.2.1,pin8.2.2.2.1,fun v z=>by cases z⟩
      · exact I9'.pin p (ed4 _ z)
 exact codeAny_compStart_list (loop _ rfl) (T.self X.A 0 _ _ _ (T.keep 0 _ _ st2 fun b hb o e=>old b o e) (loop _ rfl))
end
end L2
namespace L2
open PySem PySem.Spec PyProof.Rows
section
variable {X:Cx}
theorem G9 {elt tg iter:Expr}{ifs:List Expr}{scope:Scope}{pos:Pos}{wi:TI}{g:TG}{tc:TT}{te:TE}{N:List Str}{nl:Nat}{fr:List Nat}
   (hc:X.calm=true) (ok:ar5 X N nl fr scope) (hi:PI X tg iter wi) (hg:∀cl C s0 H0 ex,PG (U3 X N scope cl C s0 H0 ex) tg g) (ht:∀cl C s0 H0 ex,ck1 (U3 X N scope cl C s0 H0 ex) ifs tc)
   (he:∀cl C s0 H0 ex,PE (U3 X N scope cl C s0 H0 ex) elt te) (hs:∀x,foldedSetIterable iter X.env x=pure x:=by intro _;rfl):
   PE X (.ListComp elt [⟨tg,iter,ifs,0⟩] scope pos) (ck2 nl fr wi g tc te):=by
 intro pins s σ H Q I h
 have hclos:closureFor scope X.env=pure (B9 X.env scope.names []):=ap7 fun p hp hf=>I.ok.has p.1 (ok.free p hp hf)
 rw[eval_ListComp];refine wpAny_comprehension_free (use:=none) rfl hs hclos ok.kind ok.names (bl6 (RR:=fun acc C=>compPost (model X.prog X.w) X.A X.xe none (EP X pins σ Q) acc C) hc hi hg ht he ok I h ?_);intro D C s' H' I' q f ⟨m,hn⟩;exact ⟨m,hn,fun h' hs'=>⟨.ref D,H',I'.turned (t':=s'.toks) (fun b o hb e=>hs'.extBut b o hb e) f.1 f.2.1 f.2.2.2.1 f.2.2.2.2.1 f.2.2.2.2.2,rfl,q⟩⟩
theorem bg4 {i:Nat}{y:Str}{py spos:Pos}{elt tg iter:Expr}{ifs:List Expr}{scope:Scope}{pos:Pos}{wi:TI}{g:TG}{tc:TT}{te:TE}{N:List Str}{nl:Nat}{fr:List Nat}
   (hN:X.N.Nodup) (hi':X.N[i]? =some y) (hx:Loc X.env.scope y)
   (hc:X.calm=true) (ok:ar5 X N nl fr scope) (hi:PI X tg iter wi) (hg:∀cl C s0 H0 ex,PG (U3 X N scope cl C s0 H0 ex) tg g) (ht:∀cl C s0 H0 ex,ck1 (U3 X N scope cl C s0 H0 ex) ifs tc)
   (he:∀cl C s0 H0 ex,PE (U3 X N scope cl C s0 H0 ex) elt te) (hsw:swapsWith (.ListComp elt [⟨tg,iter,ifs,0⟩] scope pos) (some (.Name y py)) spos.line X.env=pure true:=by rfl)
   (hs:∀x,foldedSetIterable iter X.env x=pure x:=by intro _;rfl)
   (hf:X.fn y=true\/X.env.scope.names.lookup y=some .local:=by first|exact .inl rfl|exact .inr rfl|assumption):
   PS X (.Assign [.Name y py] (.ListComp elt [⟨tg,iter,ifs,0⟩] scope pos) spos) (ci6 (ck2 nl fr wi g tc te) (bb1 i)):=by
 intro pins s σ H Dn I h
 have hclos:closureFor scope X.env=pure (B9 X.env scope.names []):=ap7 fun p hp hf=>I.ok.has p.1 (ok.free p hp hf)
 rw[exec_Assign_Name_used _ _ _ _ hsw];refine wpAny_bind (wpAny_standAt (wpAny_bind ?_));show wpAny _ X.A (do let _ <-comprehension (.ListComp elt [⟨tg,iter,ifs,0⟩] scope pos) scope X.env _ (newList []) false (eval iter X.env) (some (assign (.Name y py) X.env))) _ _ s
 refine wpAny_bind (wpAny_mono (wpAny_comprehension_free (use:=some (assign (.Name y py) X.env)) (Q:=fun _ s'=>SP X pins Dn .next s') rfl hs hclos ok.kind ok.names
   (bl6 (RR:=fun acc C=>compPost (model X.prog X.w) X.A X.xe (some (assign (.Name y py) X.env)) (fun _ s'=>SP X pins Dn .next s') acc C) hc hi hg ht he ok I h ?_)) (fun _ s' hq=>wpAny_pure (wpAny_pure hq)) fun _ _ e=>e)
 intro D C s' H' I' q f ⟨m,hn⟩;show wpAny _ X.A (assign (.Name y py) X.env (.ref D)) _ _ _;refine wpAny_assign_Name (bk1 I' hN hi' hx (v:= .ref D) rfl (fun s2 I2 ⟨a,sb,ha⟩=> ?_) hf)
 have hCa:C≠a:=by
   rcases ha with z|z
   · rw[z];exact f.2.1
   · exact fun e=>f.2.2.2.2.1 _ _ z e.symm
 exact ⟨m,hn.sameBut sb hCa,fun h' hs'=>⟨_,H',I2.turned (t':=s2.toks) (fun b o hb e=>hs'.extBut b o hb e) f.1 f.2.1 f.2.2.2.1 f.2.2.2.2.1 f.2.2.2.2.2,q⟩⟩
theorem C0 {K:PySem.W.Frag}{a:Addr}{xs:List V}{g:TG}{tc:TT}{te:TE}{σ0:St}{H:Hp}{Q:VK}(Pv:Nat->List V->St->Hp->Prop)(h0:Pv 0 [] σ0 H)(hl:∀i ys σ H,i<=xs.length->Pv i ys σ H->i5 K H a xs)
   (hs:∀i x ys σ H,xs[i]? =some x->Pv i ys σ H->g x σ H fun σ2 H2=>tc σ2 H2 fun b H4=>if b=true then te σ2 H4 fun y H5=>ys.length < sizeLine/\Pv (i+1) (ys++[y]) σ2 H5 else Pv (i+1) ys σ2 H4)
   (hd:∀ys σ H,Pv xs.length ys σ H->∀D,H D=none->Q (.ref D) (i8 H D (.lst ys))):
   bc3 (Itl K a) g tc te Q σ0 H:=by
 refine ⟨fun i m ys σ H=>m=xs.length - i/\i<=xs.length/\Pv i ys σ H,⟨xs.length,by simp,ee2 _,h0⟩,?_⟩;rintro i m ys σ H ⟨rfl,hi,p⟩;have q:=hl i ys σ H hi p
 by_cases hlt:i < xs.length
 · refine .inr ⟨⟨xs,xs[i],q,by simp [hlt]⟩,Pv (i+1),fun ys' σ' H' p'=>⟨xs.length - (i+1),by omega,rfl,hlt,p'⟩,fun x H' y=> ?_⟩;obtain ⟨e,y⟩:=y;subst e;exact hs i x ys σ _ (y xs q) p
 · have e:i=xs.length:=by omega
   subst e;exact .inl ⟨⟨xs,q,ec6 _⟩,hd ys σ H p⟩
theorem ck3 {lo:Int}{n:Nat}{g:TG}{tc:TT}{te:TE}{σ0:St}{H:Hp}{Q:VK}(Pv:Nat->List V->St->Hp->Prop)(h0:Pv 0 [] σ0 H)
   (hs:∀i ys σ H,i < n->Pv i ys σ H->g (.int (lo+i)) σ H fun σ2 H2=>tc σ2 H2 fun b H4=>if b=true then te σ2 H4 fun y H5=>ys.length < sizeLine/\Pv (i+1) (ys++[y]) σ2 H5 else Pv (i+1) ys σ2 H4)
   (hd:∀ys σ H,Pv n ys σ H->∀D,H D=none->Q (.ref D) (i8 H D (.lst ys))):
   bc3 (Itr lo n) g tc te Q σ0 H:=by
 refine ⟨fun i m ys σ H=>m=n - i/\i<=n/\Pv i ys σ H,⟨n,by simp,ee2 _,h0⟩,?_⟩;rintro i m ys σ H ⟨rfl,hi,p⟩
 by_cases hlt:i < n
 · refine .inr ⟨hlt,Pv (i+1),fun ys' σ' H' p'=>⟨n - (i+1),by omega,rfl,hlt,p'⟩,fun x H' y=> ?_⟩;obtain ⟨e,y⟩:=y;subst e y;exact hs i ys σ _ hlt p
 · have e:i=n:=by omega
   subst e;exact .inl ⟨ec6 _,hd ys σ H p⟩
inductive EqD (K:PySem.W.Frag)(H:Hp):Nat->V->V->Bool->Prop where
 |flat {n:Nat} {x y:V}:P6 x=true->P6 y=true->EqD K H n x y (eqV x y)
 |same {n:Nat} (a:Addr):EqD K H n (.ref a) (.ref a) true
 |lists {n:Nat} {a b:Addr} {xs ys:List V} (e:Nat->Bool):a≠b->i5 K H a xs->i5 K H b ys->xs.length=ys.length->(∀(j:Nat) x y,xs[j]? =some x->ys[j]? =some y->EqD K H n x y (e j))->EqD K H (n+1) (.ref a) (.ref b) ((eh4 xs.length).all e)
 |lens {n:Nat} {a b:Addr} {xs ys:List V}:a≠b->i5 K H a xs->i5 K H b ys->xs.length≠ys.length->EqD K H (n+1) (.ref a) (.ref b) false
theorem cq6 {pins:List (Addr×Obj)}{σ:St}{H:Hp}{s:Shared}(I:i9 X pins σ H s){n:Nat}{x y:V}{b:Bool}(d:EqD X.K H n x y b):
   ∀{A:Around} {u v:Value},A.units+n < cLine->w4 x u->w4 y v->SeqAt.EqAt A s u v b:=by
 induction d with
 |flat fx fy=>intro A u v _ rx ry;exact cp4 rx ry fx fy
 |same a=>intro A u v _ rx ry;cases rx;cases ry;exact SeqAt.EqAt.same _
 |@lists n a c xs ys e ne ha hb hl _ ih=>
  intro A u v hu rx ry;cases rx;cases ry;obtain ⟨its,r1,p1,_⟩:=I.list ha;obtain ⟨its2,r2,p2,_⟩:=I.list hb;have l1:=r1.length;have l2:=r2.length;refine SeqAt.EqAt.of_refs ne ?_
  have q:=SeqAt.RcAt.lists (A:=A) (e:=e) p1.isList p2.isList (by rw[ec7,ec7];omega) (by omega) (fun j h1 h2=>by
    have h1':j < its.length:=by simpa using h1
    have h2':j < its2.length:=by simpa using h2
    have e1:xs[j]? =some (xs[j]'(by omega)):=eb9 _;have e2:ys[j]? =some (ys[j]'(by omega)):=eb9 _;obtain ⟨u1,z1,q1⟩:=r1.get e1;obtain ⟨u2,z2,q2⟩:=r2.get e2
    have w1:its.toArray[j]=u1:=by
      rw[eb9 h1'] at z1
      simpa using z1
    have w2:its2.toArray[j]=u2:=by
      rw[eb9 h2'] at z2
      simpa using z2
    rw[w1,w2]
    exact ih j _ _ e1 e2 (by show A.in1.units+n < cLine;have:A.in1.units=A.units+1:=by first|rfl|simp [Around.in1]
                             omega) q1 q2)
  rw[ec7,<-l1] at q;exact q
 |lens ne ha hb hl=>
  intro A u v hu rx ry;cases rx;cases ry;obtain ⟨its,r1,p1,_⟩:=I.list ha;obtain ⟨its2,r2,p2,_⟩:=I.list hb;have l1:=r1.length;have l2:=r2.length;exact SeqAt.EqAt.of_refs ne (SeqAt.RcAt.lists_lengths p1.isList p2.isList (by rw[ec7,ec7];simp;omega) (by omega))
def LEq (K:PySem.W.Frag)(H:Hp)(n:Nat)(xs ys:List V)(r:Bool):Prop:=
 (xs.length≠ys.length/\r=false)\/(∃e:Nat->Bool,xs.length=ys.length/\(∀(j:Nat) x y,xs[j]? =some x->ys[j]? =some y->EqD K H n x y (e j))/\r=(eh4 xs.length).all e)
theorem dp3 {pins:List (Addr×Obj)}{σ:St}{H:Hp}{s:Shared}(I:i9 X pins σ H s){A:Around}{n:Nat}{a b:Addr}{xs ys:List V}{r:Bool}(hu:A.units+n+1 < cLine)(ha:i5 X.K H a xs)(hb:i5 X.K H b ys)(d:LEq X.K H n xs ys r):
   SeqAt.RcAt A s (.ref a) (.ref b) r:=by
 obtain ⟨its,r1,p1,_⟩:=I.list ha;obtain ⟨its2,r2,p2,_⟩:=I.list hb;have l1:=r1.length;have l2:=r2.length
 rcases d with ⟨hl,rfl⟩|⟨e,hl,he,rfl⟩
 · exact SeqAt.RcAt.lists_lengths p1.isList p2.isList (by rw[ec7,ec7];simp;omega) (by omega)
 · have q:=SeqAt.RcAt.lists (A:=A) (e:=e) p1.isList p2.isList (by rw[ec7,ec7];omega) (by omega) (fun j h1 h2=>by
     have h1':j < its.length:=by simpa using h1
     have h2':j < its2.length:=by simpa using h2
     have e1:xs[j]? =some (xs[j]'(by omega)):=eb9 _;have e2:ys[j]? =some (ys[j]'(by omega)):=eb9 _;obtain ⟨u1,z1,q1⟩:=r1.get e1;obtain ⟨u2,z2,q2⟩:=r2.get e2
     have w1:its.toArray[j]=u1:=by
       rw[eb9 h1'] at z1
       simpa using z1
     have w2:its2.toArray[j]=u2:=by
       rw[eb9 h2'] at z2
       simpa using z2
     rw[w1,w2]
     exact cq6 I (he j _ _ e1 e2) (by show A.in1.units+n < cLine;have:A.in1.units=A.units+1:=by first|rfl|simp [Around.in1]
                                      omega) q1 q2)
   rw[ec7,<-l1] at q;exact q
end
end L2
namespace L2
open PySem PySem.Spec PyProof.Rows
section
variable {X:Cx}
theorem da0 {pins:List (Addr×Obj)}{σ:St}{H:Hp}{s:Shared}(I:i9 X pins σ H s){A:Around}{n:Nat}{a b:Addr}{xs ys:List V}{r:Bool}(hu:A.units+n+1 < cLine)(ha:i5 X.K H a xs)(hb:i5 X.K H b ys)(d:LEq X.K H n xs ys r):
   SeqAt.RcNeAt A s (.ref a) (.ref b) (!r):=by
 obtain ⟨its,r1,p1,_⟩:=I.list ha;obtain ⟨its2,r2,p2,_⟩:=I.list hb;have l1:=r1.length;have l2:=r2.length
 rcases d with ⟨hl,rfl⟩|⟨e,hl,he,rfl⟩
 · exact SeqAt.RcNeAt.lists_lengths p1.isList p2.isList (by rw[ec7,ec7];simp;omega) (by omega)
 · have q:=SeqAt.RcNeAt.lists (A:=A) (e:=e) p1.isList p2.isList (by rw[ec7,ec7];omega) (by omega) (fun j h1 h2=>by
     have h1':j < its.length:=by simpa using h1
     have h2':j < its2.length:=by simpa using h2
     have e1:xs[j]? =some (xs[j]'(by omega)):=eb9 _;have e2:ys[j]? =some (ys[j]'(by omega)):=eb9 _;obtain ⟨u1,z1,q1⟩:=r1.get e1;obtain ⟨u2,z2,q2⟩:=r2.get e2
     have w1:its.toArray[j]=u1:=by
       rw[eb9 h1'] at z1
       simpa using z1
     have w2:its2.toArray[j]=u2:=by
       rw[eb9 h2'] at z2
       simpa using z2
     rw[w1,w2]
     exact cq6 I (he j _ _ e1 e2) (by show A.in1.units+n < cLine;have:A.in1.units=A.units+1:=by first|rfl|simp [Around.in1]
                                      omega) q1 q2)
   rw[ec7,<-l1] at q;exact q
def dp4 (K:PySem.W.Frag)(n:Nat)(neg:Bool):R2:=fun x y H Q=>∃a b xs ys r,x= .ref a/\y= .ref b/\i5 K H a xs/\i5 K H b ys/\LEq K H n xs ys r/\Q (.bl (if neg then !r else r)) H
theorem aj6 (n:Nat)(hu:X.A.units+n+1 < cLine):M8 X (compareOp .Eq) (dp4 X.K n false):=by
 intro pins s σ H x y v u Q I rx ry h;obtain ⟨a,b,xs,ys,r,rfl,rfl,ha,hb,d,q⟩:=h;cases rx;cases ry;exact dp3 I hu ha hb d _ _ _ _ ⟨.bl r,H,I,rfl,q⟩
theorem bc5 (n:Nat)(hu:X.A.units+n+1 < cLine):M8 X (compareOp .NotEq) (dp4 X.K n true):=by
 intro pins s σ H x y v u Q I rx ry h;obtain ⟨a,b,xs,ys,r,rfl,rfl,ha,hb,d,q⟩:=h;cases rx;cases ry;exact da0 I hu ha hb d _ _ _ _ ⟨.bl (!r),H,I,rfl,q⟩
theorem ap8 {n:Nat}{e:Nat->Bool}:(eh4 n).all e=true↔∀j,j < n->e j=true:=by
 rw[ei6];exact ⟨fun h j hj=>h j (eg8.mpr hj),fun h j hj=>h j (eg8.mp hj)⟩
theorem ad9 (K:PySem.W.Frag)(H:Hp)(n:Nat)(ns ms:List Int):LEq K H n (ns.map V.int) (ms.map V.int) (decide (ns=ms)):=by
 by_cases hl:ns.length=ms.length
 · refine .inr ⟨fun j=>decide (ns[j]? =ms[j]?),by simpa using hl,fun j x y e1 e2=> ?_,?_⟩
   · rw[ec1] at e1 e2
     cases h1:ns[j]? with
     |none=>rw[h1] at e1;cases e1
     |some a=>
      cases h2:ms[j]? with
      |none=>rw[h2] at e2;cases e2
      |some b=>
       rw[h1] at e1;rw[h2] at e2;cases e1;cases e2;have q:EqD K H n (V.int a) (V.int b) (eqV (V.int a) (V.int b)):= .flat rfl rfl
       have e:eqV (V.int a) (V.int b)=decide (some a=some b):=by
         show (a==b)=_
         by_cases z:a=b
         · subst z;simp
         · rw[decide_eq_false (fun w=>z (Option.some.inj w))];simpa using z
       rw[e] at q;show EqD K H n _ _ (decide (ns[j]? =ms[j]?));rw[h1,h2];exact q
   · rw[el0,decide_eq_true_iff,ap8];constructor
     · intro h j _;subst h;simp
     · intro h
       refine ei4 fun j=> ?_
       by_cases hj:j < ns.length
       · exact of_decide_eq_true (h j (by simpa using hj))
       · rw[ed5 (by omega),ed5 (by omega)]
 · refine .inl ⟨by simpa using hl,?_⟩
   exact decide_eq_false fun h=>hl (by rw[h])
theorem cb0:K0 X (.type "range") (fun xs H Q=>∃j,xs=[.int j]/\∀p,H p=none->Q (.ref p) (i8 H p (.rng 0 j))):=by
 intro pins s σ H xs us Q I r h;obtain ⟨j,rfl,q⟩:=h;obtain ⟨u,rfl,⟨t,rfl⟩⟩:=M9 r;refine call_range_1 ⟨.ref s.heap.objs.size,_,I.laid (fun b o e=>Heap.get?_push_of_some _ e) (ec6 _) ?_,rfl,q _ (I.hok.fresh (ec6 _))⟩;exact ⟨_,_,_,Heap.get?_push_size _ rfl⟩
def Q5 (lo:Int)(n:Nat):List Int:=(eh4 n).map fun (i:Nat)=>lo+(i:Int)
theorem ck4 {lo:Int}{n:Nat}{acc:Array Value}(h:ItemsOf (fun i v=>∃t,v=Value.int (lo+(i:Int)*1) t) acc n):o8 ((Q5 lo n).map V.int) acc.toList:=by
 obtain ⟨hs,hv⟩:=h
 have key:∀(l:List Value) (k:Nat),(∀(j:Nat) v,l[j]? =some v->∃t,v=Value.int (lo+((k+j:Nat):Int)) t)->o8 (((eh4 l.length).map fun (i:Nat)=>lo+((k+i:Nat):Int)).map V.int) l:=by
   intro l
   induction l with
   |nil=>intro k _;exact .nil
   |cons v r ih=>
    intro k hk
    have e:(((eh4 r.length).map Nat.succ).map fun (i:Nat)=>lo+((k+i:Nat):Int))=(eh4 r.length).map fun (i:Nat)=>lo+((k+1+i:Nat):Int):=by
      rw[eh6]
      refine ej3 fun i _=> ?_
      show lo+((k+(i+1):Nat):Int)=_
      congr 2;omega
    rw[ef6,List.range_succ_eq_map,eg2,eg2,e];refine .cons ?_ ?_
    · obtain ⟨t,e⟩:=hk 0 v rfl;exact ⟨t,e⟩
    · have:=ih (k+1) fun j w e=>by
        obtain ⟨t,z⟩:=hk (j+1) w (by simpa using e);exact ⟨t,by rw[z];congr 2;omega⟩
      exact this
 have:=key acc.toList 0 fun j v e=>by
   obtain ⟨t,z⟩:=hv j v (by simpa using e);exact ⟨t,by rw[z,Int.mul_one];simp⟩
 have hl:acc.toList.length=n:=by simpa using hs
 rw[hl] at this
 have e:((eh4 n).map fun (i:Nat)=>lo+((0+i:Nat):Int))=Q5 lo n:=by
   unfold Q5
   refine ej3 fun i _=> ?_
   simp
 rw[e] at this;exact this
theorem bo2 (hc:X.calm=true):K0 X (.type "list") (fun xs H Q=>∃p lo hi,xs=[.ref p]/\H p=some (.rng lo hi)/\(-(2^62)<=lo/\lo < 2^62/\ -(2^62)<=hi/\hi < 2^62)/\(hi - lo).toNat<=2^20/\
   ∀l,H l=none->Q (.ref l) (i8 H l (.lst ((Q5 lo (hi - lo).toNat).map V.int)))):=by
 intro pins s σ H xs us Q I r h;obtain ⟨p,lo,hi,rfl,hp,⟨b1,b2,b3,b4⟩,hz,q⟩:=h;obtain ⟨u,rfl,rx⟩:=M9 r;cases rx;obtain ⟨t,u,v,ho⟩:=I.hok p _ hp
 refine call_list_range (n:=(hi - lo).toNat) (I.ok.hd hc) (r:=p) ho (small_one b1 b2 b3 b4) (by rw[rangeSize_one];split<;>omega) (ee0 hz (by decide)) fun h' tk acc' c' hk e it=> ?_
 have rv:=ck4 it;refine ⟨.ref s.heap.objs.size,_,I.laid hk (ec6 _) (show A5 X.prog X.w _ h' _ (.lst ((Q5 lo (hi - lo).toNat).map V.int)) from ⟨?_,acc'.toList,c',rv,by rw[e]⟩),rfl,q _ (I.hok.fresh (ec6 _))⟩;unfold Q5;rw[eb8,eb8,eg9];exact ee0 hz (by rw[sizeLine_eq];decide)
theorem cq7 (hc:X.calm=true):K0 X (.builtin "sum") (fun xs H Q=>∃(p:Addr) (ns:List Int),xs=[.ref p]/\i5 X.K H p (ns.map V.int)/\Q (.int ns.sum) H):=by
 intro pins s σ H xs us Q I r h;obtain ⟨p,ns,rfl,hp,q⟩:=h;obtain ⟨u,rfl,rx⟩:=M9 r;cases rx;obtain ⟨its,rv,pl,_⟩:=I.list hp;have ia:=ac2 rv;obtain ⟨xs,hxs⟩:=ia.allInts.items;have hn:=ia.numsOf
 have hxl:its=(intItems xs).toList:=by rw[<-hxs]
 rw[hxl,nums_intItems] at hn;have hl:=pl.isList;rw[hxs] at hl
 refine sum_intListG (I.ok.hd hc) hl fun h' tk t' hk=>⟨.int ns.sum,H,I.kept hk,?_,q⟩
 rw[preSum_eq,eh3 (by simp),hn];exact ⟨_,rfl⟩
end
end L2
namespace L2
open PySem PySem.Spec PyProof.Rows
section
variable {X:Cx}
theorem da1:K0 X (.builtin "isinstance") (fun xs H Q=>∃x n t b,xs=[x,.ty n]/\V1 X.K H x t/\PySem.W.kitOne X.K t (.type n)=some b/\Q (.bl b) H):=by
 intro pins s σ H xs us Q I r h;obtain ⟨x,n,t,b,rfl,ty,e,q⟩:=h;obtain ⟨u,w',rfl,rx,ry⟩:=al5 r;cases (show w'=Value.type n from ry)
 exact cp1 I rx ty e fun tk=>⟨.bl b,H,I.tok tk,rfl,q⟩
theorem Q6 (K:PySem.W.Frag)(n:String):PySem.W.kitOne K (.type n) (.type n)=some true:=by
 unfold PySem.W.kitOne;rw[if_pos (beq_self_eq_true _)]
theorem ar6 (K:PySem.W.Frag):PySem.W.kitOne K (.type "int") (.type "bool")=some false:=by
 unfold PySem.W.kitOne PySem.W.kitCls;rw[if_neg (by decide+kernel)];show (if PySem.W.kitMeta "bool"=true then (fastBuiltinMro "int").map (·.contains (Value.type "bool")) else none)=some false;rw[if_pos (by decide+kernel)]
 decide+kernel
theorem da2:bootBuiltins "int"=some (.type "int"):=by decide+kernel
theorem cq8:bootBuiltins "bool"=some (.type "bool"):=by decide+kernel
theorem am1:bootBuiltins "list"=some (.type "list"):=by decide+kernel
theorem cb1:bootBuiltins "range"=some (.type "range"):=by decide+kernel
theorem ay2:bootBuiltins "isinstance"=some (.builtin "isinstance"):=by decide+kernel
theorem cq9:bootBuiltins "sum"=some (.builtin "sum"):=by decide+kernel
theorem cr0:bootBuiltins "min"=some (.builtin "min"):=by decide+kernel
theorem cr1:bootBuiltins "max"=some (.builtin "max"):=by decide+kernel
end
def o5 (a:Addr)(H H':Hp):Prop:=∀b o,H b=some o->b≠a->H' b=some o
theorem o5.refl (a:Addr)(H:Hp):o5 a H H:=fun _ _ h _=>h
theorem o5.trans {a:Addr}{H H1 H2:Hp}(x:o5 a H H1)(y:o5 a H1 H2):o5 a H H2:=fun b o h n=>y b o (x b o h n) n
theorem e8.but {H H':Hp}(a:Addr)(s:e8 H H'):o5 a H H':=fun b o h _=>s b o h
theorem e8.upd_new {H:Hp}{p:Addr}{o:HO}(h:H p=none):e8 H (i8 H p o):=fun b u e=>by rw[i6 (i4 e h)];exact e
theorem e8.upd_r {H H':Hp}{p:Addr}{o:HO}(s:e8 H H')(h:H p=none):e8 H (L2.i8 H' p o):=fun b u e=>by rw[i6 (i4 e h)];exact s b u e
theorem o5.upd_r {a:Addr}{H H':Hp}{p:Addr}{o:HO}(k:o5 a H H')(h:H p=none):o5 a H (L2.i8 H' p o):=fun b u e n=>by rw[i6 (i4 e h)];exact k b u e n
theorem o5.upd_a {a:Addr}{H H':Hp}{o:HO}(k:o5 a H H'):o5 a H (L2.i8 H' a o):=fun b u e n=>by rw[i6 n];exact k b u e n
end L2
namespace L2
open PySem PySem.Spec PyProof.Rows
def m8 (P:Program)(w:World)(K:PySem.W.Frag)(mg:Str->Option Value)(base:Heap)(x:Str)(k:Nat)(ps:List Str)(sp:Sp):Prop:=
 ∃(f:Addr) (fd:FuncData),mg x=some (.ref f)/\PySem.W.keepIn K (.ref f)=true/\L6 K fd ps []/\n5 P w K mg base y7 k f fd ps sp
theorem m8.imp {P:Program}{w:World}{K:PySem.W.Frag}{mg:Str->Option Value}{base:Heap}{x:Str}{k:Nat}{ps:List Str}{sp sp':Sp}(c:m8 P w K mg base x k ps sp)(h:∀vs H Q E,sp' vs H Q E->sp vs H Q E)(hl:∀vs H Q E,sp' vs H Q E->vs.length=ps.length):m8 P w K mg base x k ps sp':=by
 obtain ⟨f,fd,a,b,d,g⟩:=c;exact ⟨f,fd,a,b,d,g.imp (by first|exact h|exact fun vs H Q E z=>h vs H Q E z)⟩
section
variable {X:Cx} {x:Str} {p pos:Pos} {e:Expr} {es:List Expr} {t:TA} {k:Nat} {ps:List Str} {sp:Sp}
theorem i7 (c:m8 X.prog X.w X.K X.mg X.base x k ps sp)(hr:m7 k X.A)(ha:PA X (e::es) t)(hg:Gl X x:=by rfl)(hdb:(x==("__debug__":Str))=false:=by decide)
   (he:starEach (e::es) X.env=(false,eval e X.env)::starEach es X.env:=by rfl) (hpl:(backTo pos (starEach es X.env)).any (·.1)=false:=by rfl):
   PE X (.Call (.Name x p) (e::es) [] pos) (cj6 sp [] E0 t):=by
 obtain ⟨f,fd,h1,h2,h3,h4⟩:=c;exact ce4 h4 hr hg h1 h2 h3 .nil ck0 ha hdb he hpl
theorem aa6 {a b:Expr}{ta:TA}(hm:X.mg "isinstance"=none)(ha:PA X [a,b] ta)(hg:Gl X "isinstance":=by rfl)
   (he:starEach [a,b] X.env=(false,eval a X.env)::starEach [b] X.env:=by rfl) (hpl:(backTo pos (starEach [b] X.env)).any (·.1)=false:=by rfl):
   PE X (.Call (.Name "isinstance" p) [a,b] [] pos) (V9 (fun xs H Q=>∃x n t b,xs=[x,.ty n]/\V1 X.K H x t/\PySem.W.kitOne X.K t (.type n)=some b/\Q (.bl b) H) ta):=
 K7 da1 hg hm ay2 ha (by decide) (by decide) he hpl
theorem da3 (hm:X.mg "int"=none)(hg:Gl X "int":=by rfl):PE X (.Name "int" p) (tC (.ty "int")):=aj4 hg hm da2 rfl
theorem cr2 (hm:X.mg "bool"=none)(hg:Gl X "bool":=by rfl):PE X (.Name "bool" p) (tC (.ty "bool")):=aj4 hg hm cq8 rfl
theorem ar7 (hm:X.mg "list"=none)(hg:Gl X "list":=by rfl):PE X (.Name "list" p) (tC (.ty "list")):=aj4 hg hm am1 rfl
theorem x9 (hm:X.mg "len"=none)(ha:PA X [e] t)(hg:Gl X "len":=by rfl)
   (he:starEach [e] X.env=(false,eval e X.env)::starEach [] X.env:=by rfl):PE X (.Call (.Name "len" p) [e] [] pos) (V9 (fun xs H Q=>∃p ys,xs=[.ref p]/\(i5 X.K H p ys\/M6 X.K H p ys)/\Q (.int ys.length) H) t):=
 K7 br5 hg hm PySem.boot_len ha (by decide) (by decide) he rfl
end
end L2
namespace Mth
structure A1 (p:List Int):Prop where
 nd:p.Nodup
 lo:∀x∈p,0<=x
 hi:∀x∈p,x < p.length
theorem I0 {n:Nat}{x:Int}:x∈L2.Q5 0 n↔0<=x/\x < n:=by
 unfold L2.Q5;rw[ee3];constructor
 · rintro ⟨i,hi,rfl⟩;have:=eg8.mp hi;omega
 · rintro ⟨h1,h2⟩;exact ⟨x.toNat,eg8.mpr (by omega),by omega⟩
theorem E2 (lo:Int)(n:Nat):(L2.Q5 lo n).length=n:=by
 unfold L2.Q5;rw[eb8,eg9]
theorem N0 (n:Nat):(L2.Q5 0 n).Nodup:=by
 unfold L2.Q5;rw[ee6,en1];exact List.Pairwise.imp (fun {a b} (h:a < b)=>by omega) em5
theorem U4 {p:List Int}{n:Nat}(h:p.Perm (L2.Q5 0 n)):A1 p/\p.length=n:=by
 have hl:p.length=n:=by rw[h.length_eq,E2]
 refine ⟨⟨h.nodup_iff.mpr (N0 n),fun x hx=>(I0.mp (h.mem_iff.mp hx)).1,fun x hx=> ?_⟩,hl⟩;have:=(I0.mp (h.mem_iff.mp hx)).2;omega
theorem bo3:∀(n:Nat) (p:List Nat),p.Nodup->(∀x∈p,x < n)->p.length=n->p.Perm (eh4 n):=by
 intro n
 induction n with
 |zero=>intro p _ _ hl;rw[List.eq_nil_of_length_eq_zero hl];exact List.Perm.refl _
 |succ n ih=>
  intro p nd hb hl
  by_cases hn:n∈p
  · obtain ⟨s,t,rfl⟩:=er4 hn;have pm:(s++n::t).Perm (n::(s++t)):=List.perm_middle;have nd':=pm.nodup_iff.mp nd;obtain ⟨h1,h2⟩:=eg7.mp nd'
    have:=ih (s++t) h2 (fun x hx=>by
      have hx':x < n+1:=hb x (pm.mem_iff.mpr (ec9 _ hx))
      have:x≠n:=fun e=>h1 (e▸hx)
      omega) (by rw[ec2,ef6] at hl;rw[ec2];omega)
    refine pm.trans ?_;rw[List.range_succ];exact (List.Perm.cons n this).trans (List.perm_append_comm (l₁:=[n]))
  · exfalso
    have hlt:∀x∈p,x < n:=fun x hx=>by
      have h1:=hb x hx
      have:x≠n:=fun e=>hn (e▸hx)
      omega
    match p,nd,hl,hlt with
    |[],_,hl,_=>simp at hl
    |y::q,nd,hl,hlt=>
     obtain ⟨h1,h2⟩:=eg7.mp nd;have hq:=ih q h2 (fun x hx=>hlt x (ec9 _ hx)) (by simpa using hl);have hy:=hlt y ec5;exact h1 (hq.mem_iff.mpr (eg8.mpr hy))
theorem A1.perm {p:List Int}(h:A1 p):p.Perm (L2.Q5 0 p.length):=by
 have e:(p.map el8).map (fun (i:Nat)=>(0:Int)+(i:Int))=p:=by
   rw[eh6]
   conv=>rhs;rw[<-List.map_id p]
   refine ej3 fun x hx=> ?_
   have:=h.lo x hx;show (0:Int)+((x.toNat:Nat):Int)=x;omega
 have nd:(p.map el8).Nodup:=by
   rw[ee6,en1];have:=ee6.mp h.nd;refine List.Pairwise.imp_of_mem (fun {a b} ha hb hne z=>hne ?_) this;have h1:=h.lo a ha;have h2:=h.lo b hb;omega
 have:=bo3 p.length (p.map el8) nd (fun x hx=>by
   obtain ⟨y,hy,rfl⟩:=ee3.mp hx;have h1:=h.lo y hy;have h2:=h.hi y hy
   omega) (by rw[eb8])
 have q:=this.map (fun (i:Nat)=>(0:Int)+(i:Int));rw[e] at q;exact q
def A4 (fs:List Int)(u:Int):Option Int:=fs[u.toNat]?
theorem bs0 (fs:List Int):(L2.Q5 0 fs.length).map (A4 fs)=fs.map some:=by
 unfold L2.Q5;rw[eh6]
 refine ei4 fun j=> ?_
 rw[ec1,ec1]
 by_cases hj:j < fs.length
 · rw[ej4 hj,eb9 hj];show some (fs[((0:Int)+(j:Int)).toNat]?)=_
   have:((0:Int)+(j:Int)).toNat=j:=by omega
   rw[this,eb9 hj];rfl
 · rw[ed5 (by rw[eg9];omega),ed5 (by omega)];rfl
theorem cr3 {a b:List Int}(h:(a.map some).Perm (b.map some)):a.Perm b:=by
 have:=h.map (fun o:Option Int=>o.getD 0);rw[eh6,eh6] at this
 have e:∀l:List Int,l.map ((fun o:Option Int=>o.getD 0)∘some)=l:=fun l=>by
   conv=>rhs;rw[<-List.map_id l]
   rfl
 rw[e,e] at this;exact this
theorem am2 {fs ts qs:List Int}(ht:A1 ts)(hl:fs.length=ts.length)(h:ts.map (A4 fs)=qs.map some):fs.Perm qs:=by
 refine cr3 ?_;have h1:=ht.perm.map (A4 fs);rw[<-hl,bs0,h] at h1;exact h1.symm
end Mth
namespace L2
open PySem PySem.Spec PyProof.Rows
theorem ar5.of {X:Cx}{N:List Str}{nl:Nat}{fr:List Nat}{scope:Scope}(h1:(scope.names.all fun y=>y.2 != .cell)=true:=by rfl)(h2:scope.kind= .function:=by rfl)
   (h3:(scope.names.all fun y=>y.2 != .local||scope.names.lookup y.1==some .local)=true:=by rfl)
   (h4:(scope.names.all fun p=>p.2 != .free||(X.env.kindOf p.1==some .cell||X.env.kindOf p.1==some .free))=true:=by rfl) (h5:N.length=nl+fr.length:=by rfl)
   (h6:((eh4 fr.length).all fun k=>match fr[k]? with
     |some j=>(match N[nl+k]?,X.N[j]? with
      |some y,some z=>y==z&&(X.env.scope.names.lookup y==some .local||X.env.scope.names.lookup y==some .cell||X.env.scope.names.lookup y==some .free)&&scope.names.lookup y==some .free
      |_,_=>false)
     |none=>false)=true:=by rfl):ar5 X N nl fr scope where
 cell:=fun y hy e=>by
   have:=ei6.mp h1 y hy;rw[e] at this;exact absurd this (by decide)
 kind:=h2
 names:=fun y hy e=>by
   have:=ei6.mp h3 y hy;rw[e] at this
   have q:(scope.names.lookup y.1==some NameKind.local)=true:=by simpa using this
   exact eq_of_beq q
 free:=fun p hp e=>by
   have:=ei6.mp h4 p hp;rw[e] at this
   have q:(X.env.kindOf p.1==some NameKind.cell||X.env.kindOf p.1==some NameKind.free)=true:=by simpa using this
   rcases eo5 _ _|>.mp q with z|z
   · exact .inl (eq_of_beq z)
   · exact .inr (eq_of_beq z)
 len:=h5
 fr:=fun k j e=>by
   have hk:k < fr.length:=(ec0.mp e).1;have:=ei6.mp h6 k (eg8.mpr hk);rw[e] at this
   dsimp only at this
   cases e1:N[nl+k]? with
   |none=>rw[e1] at this;cases this
   |some y=>
    cases e2:X.N[j]? with
    |none=>rw[e1,e2] at this;cases this
    |some z=>
     rw[e1,e2] at this
     dsimp only at this
     rw[ef7,ef7] at this;obtain ⟨⟨q1,q2⟩,q3⟩:=this;have hyz:y=z:=eq_of_beq q1;subst hyz;refine ⟨y,rfl,rfl,?_,eq_of_beq q3⟩;rw[eo5,eo5] at q2
     rcases q2 with (q|q)|q
     · exact .inl (eq_of_beq q)
     · exact .inr (.inl (eq_of_beq q))
     · exact .inr (.inr (eq_of_beq q))
def R9 (l:List Int):List (x5×V):=l.map fun n=>((Sum.inl n:x5),V.bl true)
theorem bs1 {l:List Int}{n:Int}(h:n∈l):B8 (R9 l) (Sum.inl n:x5)=some (.bl true):=by
 induction l with
 |nil=>simp at h
 |cons a r ih=>
  show B8 (((Sum.inl a:x5),V.bl true)::R9 r) _=_
  by_cases e:a=n
  · rw[Y5 (by rw[e])]
  · rw[ad8 (fun z=>e (Sum.inl.inj z))];exact ih ((ec8.mp h).resolve_left fun z=>e z.symm)
theorem ay3 {l:List Int}{n:Int}(h:n∉l):B8 (R9 l) (Sum.inl n:x5)=none:=by
 induction l with
 |nil=>rfl
 |cons a r ih=>
  show B8 (((Sum.inl a:x5),V.bl true)::R9 r) _=_;rw[ad8 (fun z=>h (by rw[Sum.inl.inj z];exact ec5))]
  exact ih fun z=>h (ec9 _ z)
theorem bl7 {l:List Int}{n:Int}(h:n∉l):P0 (R9 l) (Sum.inl n:x5) (V.bl true)=R9 (l++[n]):=by
 rw[al8 _ (ay3 h)];unfold R9;rw[ec3];rfl
theorem y9 {ns:List Int}{i:Nat}{y:V}(h:(ns.map V.int)[i]? =some y):∃z,ns[i]? =some z/\y= .int z:=by
 rw[ec1] at h
 cases e:ns[i]? with
 |none=>rw[e] at h;cases h
 |some z=>rw[e] at h;exact ⟨z,rfl,(Option.some.inj h).symm⟩
theorem n6 {α:Type}{l:List α}{i:Nat}{x:α}(h:l[i]? =some x):l.take (i+1)=l.take i++[x]:=by
 rw[es3,h];rfl
end L2
namespace Mth
def B4 (p q:List Int):List Int:=q.map fun i=>p.getD i.toNat 0
theorem M3 {p:List Int}{i:Int}(h0:0<=i)(h1:i < p.length):L2.Y2 (p.map L2.V.int) i=some (.int (p.getD i.toNat 0)):=by
 obtain ⟨j,rfl⟩:=ef0 h0;refine L2.o9 ?_
 have hj:j < p.length:=by omega
 rw[ec1,eb9 hj];show some (L2.V.int p[j])=_;rw[ed7];rw[ed0,eb9 hj];rfl
end Mth
namespace L2
open PySem PySem.Spec PyProof.Rows
theorem av0 (K:PySem.W.Frag)(H:Hp)(n:Nat)(xs:List V):LEq K H n xs [] xs.isEmpty:=by
 cases xs with
 |nil=>exact .inr ⟨fun _=>true,rfl,fun j x y e=>by simp at e,rfl⟩
 |cons x r=>exact .inl ⟨by simp,rfl⟩
section
variable {X:Cx} {p pos apos:Pos} {e o:Expr} {es:List Expr} {t:TA} {to:TE}
theorem C6 (ho:PE X o to)(ha:PA X [e] t)
   (hbase:attributeBase o "append" X.env (eval o X.env)=eval o X.env:=by rfl)
   (hfew:((backTo pos (starEach [e] X.env)).all (fun x=> !x.1)&&(backToKw pos (keywordEach [] X.env)).all (fun x=>x.1.isSome)
     &&decide ([e].length+([]:List Keyword).length+(if ([]:List Keyword).isEmpty then 0 else 1) < 30))=true:=by rfl)
   (hline:(apos.endLine==pos.line)=true:=by rfl) (hs:starEach [e] X.env=(false,eval e X.env)::starEach [] X.env:=by rfl) (hplain:(backTo pos (starEach [] X.env)).any (·.1)=false:=by rfl):
   PE X (.Call (.Attribute o "append" apos) [e] [] pos) (tBM X.K "list" ce8 to t):=
 W8 PySem.F.plainAttrs_list PySem.F.slot_list_append PySem.F.type_list_append cp6 ho ha hbase hfew hline hs hplain
theorem bl8 (hm:X.mg "list"=none)(ha:PA X [e] t)(hg:Gl X "list":=by rfl)(he:starEach [e] X.env=(false,eval e X.env)::starEach [] X.env:=by rfl):
   PE X (.Call (.Name "list" p) [e] [] pos) (V9 (fun xs H Q=>∃p ys,xs=[.ref p]/\(i5 X.K H p ys\/M6 X.K H p ys)/\∀l,H l=none->Q (.ref l) (i8 H l (.lst ys))) t):=
 W0 br7 hg hm am1 ha (by decide) (by decide) he rfl
theorem bc6 {p2 pos2:Pos}(hc:X.calm=true)(hm:X.mg "list"=none)(hm2:X.mg "range"=none)(ha:PA X [e] t)(hg:Gl X "list":=by rfl)(hg2:Gl X "range":=by rfl)(he:starEach [e] X.env=(false,eval e X.env)::starEach [] X.env:=by rfl)
   (he2:starEach [.Call (.Name "range" p2) [e] [] pos2] X.env=(false,eval (.Call (.Name "range" p2) [e] [] pos2) X.env)::starEach [] X.env:=by rfl):
   PE X (.Call (.Name "list" p) [.Call (.Name "range" p2) [e] [] pos2] [] pos) (V9 (fun xs H Q=>∃p lo hi,xs=[.ref p]/\H p=some (.rng lo hi)/\(-(2^62)<=lo/\lo < 2^62/\ -(2^62)<=hi/\hi < 2^62)/\(hi - lo).toNat<=2^20/\
   ∀l,H l=none->Q (.ref l) (i8 H l (.lst ((Q5 lo (hi - lo).toNat).map V.int)))) (R6 (V9 (fun xs H Q=>∃j,xs=[.int j]/\∀p,H p=none->Q (.ref p) (i8 H p (.rng 0 j))) t) V2)):=
 W0 (bo2 hc) hg hm am1 (c5 (W0 cb0 hg2 hm2 cb1 ha (by decide) (by decide) he rfl) c6 he2) (by decide) (by decide) he2 rfl
theorem cr4 (hc:X.calm=true)(hm:X.mg "sum"=none)(ha:PA X [e] t)(hg:Gl X "sum":=by rfl)(he:starEach [e] X.env=(false,eval e X.env)::starEach [] X.env:=by rfl):
   PE X (.Call (.Name "sum" p) [e] [] pos) (V9 (fun xs H Q=>∃(p:Addr) (ns:List Int),xs=[.ref p]/\i5 X.K H p (ns.map V.int)/\Q (.int ns.sum) H) t):=
 K7 (cq7 hc) hg hm cq9 ha (by decide) (by decide) he rfl
theorem cf2 {a b:Expr}(hc:X.calm=true)(hm:X.mg "min"=none)(ha:PA X [a,b] t)(hg:Gl X "min":=by rfl)(he:starEach [a,b] X.env=(false,eval a X.env)::starEach [b] X.env:=by rfl)(hpl:(backTo pos (starEach [b] X.env)).any (·.1)=false:=by rfl):
   PE X (.Call (.Name "min" p) [a,b] [] pos) (V9 (fun xs H Q=>∃i j,xs=[.int i,.int j]/\Q (.int (if j < i then j else i)) H) t):=
 K7 (co8 hc) hg hm cr0 ha (by decide) (by decide) he hpl
theorem cf3 {a b:Expr}(hc:X.calm=true)(hm:X.mg "max"=none)(ha:PA X [a,b] t)(hg:Gl X "max":=by rfl)(he:starEach [a,b] X.env=(false,eval a X.env)::starEach [b] X.env:=by rfl)(hpl:(backTo pos (starEach [b] X.env)).any (·.1)=false:=by rfl):
   PE X (.Call (.Name "max" p) [a,b] [] pos) (V9 (fun xs H Q=>∃i j,xs=[.int i,.int j]/\Q (.int (if j > i then j else i)) H) t):=
 K7 (co7 hc) hg hm cr1 ha (by decide) (by decide) he hpl
end
end L2
namespace Mth
theorem am3 {α:Type}:∀{l:List α} {k:Nat} {y:α},l[k]? =some y->(y::l.eraseIdx k).Perm l
 |[],k,y,h=>by simp at h
 |a::r,0,y,h=>by
  simp at h;subst h;exact List.Perm.refl _
 |a::r,k+1,y,h=>by
  have h':r[k]? =some y:=by simpa using h
  have ih:=am3 h';show (y::a::r.eraseIdx k).Perm (a::r);exact (List.Perm.swap a y _).trans (ih.cons a)
end Mth
namespace L2
open PySem PySem.Spec PyProof.Rows
def du3 (K:PySem.W.Frag)(ta:TA):TE:=V9 (fun xs H Q=>∃p ys,xs=[.ref p]/\(i5 K H p ys\/M6 K H p ys)/\Q (.int ys.length) H) ta
section
variable {X:Cx} {p pos:Pos} {e:Expr} {t:TA}
theorem ae0 (K:PySem.W.Frag)(hm:X.mg "len"=none)(ha:PA X [e] t)(hK:X.K=K:=by rfl)(hg:Gl X "len":=by rfl)
   (he:starEach [e] X.env=(false,eval e X.env)::starEach [] X.env:=by rfl):PE X (.Call (.Name "len" p) [e] [] pos) (du3 K t):=by
 subst hK;exact x9 hm ha hg he
end
theorem da4 (n:Nat):(ed1 n [V.int 0]).flatten=(ed1 n (0:Int)).map V.int:=by
 induction n with
 |zero=>rfl
 |succ n ih=>rw[ej2,ee8,ih,ej2,eg2];rfl
end L2
namespace Mth
theorem U5 {fs:List Int}{u v x:Int}(hu:0<=u)(hv:0<=v)(h:u≠v):A4 (fs.set v.toNat x) u=A4 fs u:=by
 unfold A4;rw[en6 (by omega)]
theorem Z0 {fs:List Int}{v x:Int}(h:v.toNat < fs.length):A4 (fs.set v.toNat x) v=some x:=by
 unfold A4;rw[em2 h]
theorem B0 {ts:List Int}{i:Nat}(h:i < ts.length):ts.getD i 0=ts[i]:=by
 rw[ed0,eb9 h];rfl
theorem S4 {ts:List Int}(nd:ts.Nodup){i j:Nat}(hi:i < ts.length)(hj:j < ts.length)(h:i≠j):ts.getD i 0≠ts.getD j 0:=by
 rw[B0 hi,B0 hj]
 rcases Nat.lt_or_gt_of_ne h with z|z
 · exact ef8.mp (ee6.mp nd) i j hi hj z
 · exact fun e=>ef8.mp (ee6.mp nd) j i hj hi z e.symm
theorem da5 {ts fs qs:List Int}{k L:Nat}(hL:1<=L)(hb:k+L<=ts.length)(h1:(ts.take k).map (A4 fs)=qs.map some)(hq:qs.Perm (ts.take k))
   (h2:∀j,j < L->A4 fs (ts.getD (k+j) 0)=some (ts.getD (k+(j+1)%L) 0)):∃qs':List Int,qs'.Perm (ts.take (k+L))/\(ts.take (k+L)).map (A4 fs)=qs'.map some:=by
 have hT:((ts.drop k).take L).length=L:=by rw[ed3,ei0];omega
 have hTj:∀j,j < L->((ts.drop k).take L)[j]? =some (ts.getD (k+j) 0):=fun j hj=>by
   rw[eg1 hj,ek8,B0 (by omega),eb9 (by omega)]
 have e:((ts.drop k).take L).map (A4 fs)=(((ts.drop k).take L).drop 1++((ts.drop k).take L).take 1).map some:=by
   refine ei4 fun j=> ?_
   by_cases hj:j < L
   · rw[ec1,hTj j hj,ec1];show some (A4 fs (ts.getD (k+j) 0))=_;rw[h2 j hj]
     by_cases hj1:j+1 < L
     · rw[ef3 (by rw[ei0,hT];omega),ek8,ek3 1 j,hTj (j+1) hj1,ef9 hj1];rfl
     · have hjL:j+1=L:=by omega
       rw[ed6 (by rw[ei0,hT];omega),ei0,hT,hjL,Nat.mod_self]
       have:j - (L - 1)=0:=by omega
       rw[this,eg1 (by omega),hTj 0 (by omega)];rfl
   · rw[ed5 (by rw[eb8,hT];omega),ed5];rw[eb8,ec2,ei0,ed3 (i:=1),hT];omega
 refine ⟨qs++(((ts.drop k).take L).drop 1++((ts.drop k).take L).take 1),?_,?_⟩
 · rw[eu9];refine List.Perm.append hq ?_;refine List.perm_append_comm.trans ?_;rw[ek9]
 · rw[eu9,ec3,ec3,h1,e]
end Mth
namespace L2
open PySem PySem.Spec PyProof.Rows
theorem o5.free {a l:Addr}{H H':Hp}(k:o5 a H H')(h:H' l=none)(n:l≠a):H l=none:=by
 cases e:H l with
 |none=>rfl
 |some o=>have:=k l o e n;rw[h] at this;cases this
theorem e8.kb {a:Addr}{H H1 H2:Hp}(s:e8 H H1)(k:o5 a H1 H2)(h:H a=none):e8 H H2:=fun b o e=>k b o (s b o e) (i4 e h)
def C8 (H:Hp)(as:List Addr)(rs:List (List Int)):Prop:=as.length=rs.length/\∀(j:Nat) a r,as[j]? =some a->rs[j]? =some r->H a=some (.lst (r.map V.int))
theorem bs2 (lo:Int)(n:Nat):(Q5 lo n).length=n:=by
 unfold Q5;rw[eb8,eg9]
theorem ay4 {p:List Int}{j:Nat}(h:j < p.length):Y2 (p.map V.int) ((0:Int)+(j:Int))=some (.int (p.getD j 0)):=by
 have e:(0:Int)+(j:Int)=((j:Nat):Int):=by omega
 rw[e];refine o9 ?_;rw[ec1,eb9 h,ed0,eb9 h];rfl
end L2
namespace Mth
theorem da6 {p q:List Int}(h:q.Perm p)(t:A1 p):A1 q:=
 ⟨h.nodup_iff.mpr t.nd,fun x hx=>t.lo x (h.mem_iff.mp hx),fun x hx=>by rw[h.length_eq];exact t.hi x (h.mem_iff.mp hx)⟩
theorem da7 {p:List Int}(t:A1 p){j:Nat}(h:j < p.length):0<=p.getD j 0/\p.getD j 0 < p.length:=by
 rw[B0 h];exact ⟨t.lo _ (ee5 h),t.hi _ (ee5 h)⟩
theorem aw8 (p q:List Int):(B4 p q).length=q.length:=by unfold B4;rw[eb8]
end Mth
namespace L2
open PySem PySem.Spec PyProof.Rows
def Ite (K:PySem.W.Frag)(a:Addr):It:=
 ⟨fun i H=>∃xs x,i5 K H a xs/\xs[i]? =some x,fun i H v H'=>∃x t,(∀xs,i5 K H a xs->xs[i]? =some x)/\H t=none/\v= .ref t/\H'=i8 H t (.tup [.int (i:Int),x]),fun i H=>∃xs,i5 K H a xs/\xs.length<=i⟩
theorem cr6 {P:Program}{w:World}{K:PySem.W.Frag}{elts:List Expr}{x1}{pos:Pos}(a e it:Addr)(hne:e≠it):
   al4 P w K (.Tuple elts x1 pos) (Ite K a) [e,it] e (fun i h=>(∃old,IsEnum h e it i old)/\h.IsListIter it a i) where
 mem:=by simp
 obj:=fun i h st b hb=>by
   obtain ⟨⟨old,he⟩,⟨o,ho,c,d⟩⟩:=st
   have hb:b=e\/b=it:=by simpa using hb
   rcases hb with rfl|rfl
   · exact ⟨_,he,fun v z=>by cases z⟩
   · exact ⟨o,ho,fun v z=>by rw[d] at z;cases z⟩
 keep:=fun i h h' st k=>⟨let ⟨old,he⟩:=st.1;⟨old,k e (by simp) _ he⟩,st.2.at fun o q=>k it (by simp) o q⟩
 item:=by
   intro X hP hw hK hc i pins s σ H E I hf st hg;subst hP hw hK;obtain ⟨⟨old,he⟩,hit⟩:=st;obtain ⟨xs,x,hq,hx⟩:=hg;obtain ⟨its,rv,p,hz⟩:=I.list hq;obtain ⟨u,hu,ru⟩:=rv.get hx;obtain ⟨f0,f1,f2,f3,f4,f5⟩:=hf e (by simp);obtain ⟨g0,g1,g2,g3,g4,g5⟩:=hf it (by simp)
   refine wpAny_pyNext_enum_item he hit p.isList (x:=u) (by simpa using hu) hne fun h' he' hit' ht' hz' hk'=> ?_
   refine ⟨_,rfl,wpAny_letOwnedTupleGo_enum he' fun h2 he2 hs2=> ?_⟩;have hs2:Heap.SameBut e h' h2:=hs2;have eT:e≠s.heap.objs.size:=ed2 (Heap.lt_size he);have ht2:h2.get? s.heap.objs.size=some {cls:= .type "tuple",data:= .seq #[.int i s.toks,u]}:=hs2.extBut _ _ eT.symm ht'
   have kk:∀b o,b≠e->b≠it->s.heap.get? b=some o->h2.get? b=some o:=fun b o b1 b2 q=>hs2.extBut b o b1 (hk' b o b1 b2 q)
   have hn:H s.heap.objs.size=none:=I.hok.fresh (ec6 _)
   have nT:∀b u',H b=some u'->b≠s.heap.objs.size:=fun b u' q=>i4 q hn
   have ne:∀b u',H b=some u'->b≠e/\b≠it:=fun b u' q=>⟨fun z=>(by rw[z,f0] at q;cases q),fun z=>(by rw[z,g0] at q;cases q)⟩
   have I1:i9 X pins σ (i8 H s.heap.objs.size (.tup [.int (i:Int),x])) {s with heap:=h2,gens:=s.gens,drawn:=s.drawn,toks:=s.toks+1}:=by
     refine I.step (ch:=[e,it]) (fun b hb=> ?_) (fun b o _ _ hc q _=>kk b o (fun z=>hc (by simp [z])) (fun z=>hc (by simp [z])) q) (fun b o _ _ hc q _=>⟨o.slots,kk b o (fun z=>hc (by simp [z])) (fun z=>hc (by simp [z])) q⟩)
       (fun b o hc q n=>by rw[i6 (ed2 (Heap.lt_size q))];exact n) (fun b o hc q=>⟨o,kk b o (fun z=>hc (by simp [z])) (fun z=>hc (by simp [z])) q⟩)
       (fun b ys q=>by rw[i6 (nT b _ q)];exact q) (fun b o ys q=>by rw[i6 (nT b _ q)];exact q) (fun b ps q=>⟨#[],by rw[i6 (nT b _ q),q];simp⟩) (fun m hm=> ?_) (fun b u' q=> ?_) I.bare
     · have hb:b=e\/b=it:=by simpa using hb
       rcases hb with rfl|rfl
       · exact ⟨f3,f1,f4,f5⟩
       · exact ⟨g3,g1,g4,g5⟩
     · obtain ⟨o,es,ep,ho,r⟩:=hm;exact ⟨o,es,ep,kk _ o (Ne.symm f1) (Ne.symm g1) ho,r⟩
     · by_cases hb:b=s.heap.objs.size
       · subst hb;rw[c9] at q;cases q;exact ⟨by show 2<=sizeLine;decide,[.int i s.toks,u],.cons ⟨_,rfl⟩ (.cons ru .nil),⟨_,ht2,rfl,0,rfl⟩⟩
       · rw[i6 hb] at q
         refine (I.hok b u' q).stay (fun c v hc q'=> ?_) (fun c q'=>by rw[i6 (nT c _ q')];exact q') fun c ys q'=>by rw[i6 (nT c _ q')];exact q'
         rcases hc with z|z
         · rw[z] at q' ⊢;exact kk b v (ne b _ q).1 (ne b _ q).2 q'
         · exact kk c v (ne c _ z).1 (ne c _ z).2 q'
   refine ⟨.ref s.heap.objs.size,_,I1,rfl,⟨x,s.heap.objs.size,fun ys hy=>by rw[I.list_inj hy hq];exact hx,hn,rfl,rfl⟩,⟨⟨u,?_⟩,?_⟩,fun b hb=> ?_⟩
   · have:((i+1:Nat):Int)=(i:Int)+1:=by push_cast;rfl
     rw[this];exact he2
   · exact hit'.extBut hs2.extBut hne.symm
   · have hb:b=e\/b=it:=by simpa using hb
     rcases hb with rfl|rfl
     · rw[i6 eT];exact f0
     · obtain ⟨o,ho,_⟩:=hit;rw[i6 (ed2 (Heap.lt_size ho))];exact g0
 done:=by
   intro X hP hw hK hc i pins s σ H E I hf st hg;subst hP hw hK;obtain ⟨⟨old,he⟩,hit⟩:=st;obtain ⟨xs,hq,hx⟩:=hg;obtain ⟨its,rv,p,hz⟩:=I.list hq;obtain ⟨g0,g1,g2,g3,g4,g5⟩:=hf it (by simp);have hl:=rv.length
   exact wpAny_pyNext_enum_end (I.ok.hd hc) he hit p.isList (by simp;omega) fun h' eb=>⟨rfl,I.turned (t':=s.toks) (fun b o hb q=>eb b o hb q) g0 g1 g3 g4 g5⟩
 self:=fun _ _ _ _ _ st h=>let ⟨_,he⟩:=st.1;wpAny_pyIter_enum he h
theorem cr7:bootBuiltins "enumerate"=some (.type "enumerate"):=by decide+kernel
section
variable {X:Cx} {l:Expr} {ta:TA} {p pos:Pos} {elts:List Expr} {x1:Nat} {tpos:Pos}
def du4 (K:PySem.W.Frag)(ta:TA):TI:=fun σ H R=>ta σ H fun vs H1=>∃a,vs=[.ref a]/\(∃xs,i5 K H1 a xs)/\R (Ite K a) H1
theorem bg5 (hm:X.mg "enumerate"=none)(ha:PA X [l] ta)(hg:Gl X "enumerate":=by rfl)(hs:starEach [l] X.env=[(false,eval l X.env)]:=by rfl):PI X (.Tuple elts x1 tpos) (.Call (.Name "enumerate" p) [l] [] pos) (du4 X.K ta):=by
 intro pins s σ H R I h;refine Call_ (Q2 I hg hm cr7 (PyProof.Rows.callWith_type1 (r6 (ha pos pins s σ H _ I h) fun us s1 ⟨vs,H1,I1,r1,q1⟩=> ?_) hs rfl));obtain ⟨a,e,⟨xs,hq⟩,q⟩:=q1;subst e;obtain ⟨u,rfl,rx⟩:=M9 r1;cases rx;obtain ⟨its,rv,pl,hz⟩:=I1.list hq
 refine call_enumerate_list pl.isList fun h' he hit hz' hk=> ?_
 refine wpAny_pyIter_enum he ?_;have I2:i9 X pins σ H1 {s1 with heap:=h',toks:=s1.toks}:=I1.kept (t':=s1.toks) hk;refine ⟨s1.heap.objs.size+1,[s1.heap.objs.size+1,s1.heap.objs.size],_,_,H1,rfl,I2,cr6 a (s1.heap.objs.size+1) s1.heap.objs.size (Nat.succ_ne_self _),⟨⟨.none,he⟩,hit⟩,fun b hb=> ?_,q⟩
 have hb:b=s1.heap.objs.size+1\/b=s1.heap.objs.size:=by simpa using hb
 rcases hb with rfl|rfl
 · exact I1.fpOk (by omega) (I1.hok.fresh (by omega))
 · exact I1.fpOk (by omega) (I1.hok.fresh (by omega))
end
theorem ay5 {K:PySem.W.Frag}{a:Addr}{xs:List V}{g:TG}{tb:TS}{D:T9}{σ:St}{H:Hp}(Pv:Nat->St->Hp->Prop)(h0:Pv 0 σ H)(hl:∀i σ H,i<=xs.length->Pv i σ H->i5 K H a xs)
   (hs:∀i x σ H t,xs[i]? =some x->Pv i σ H->H t=none->g (.ref t) σ (i8 H t (.tup [.int (i:Int),x])) fun σ2 H2=>tb {D with nx:=Pv (i+1),ct:=Pv (i+1),bk:=D.nx} σ2 H2) (hd:∀σ H,Pv xs.length σ H->D.nx σ H):
   ∃W:Nat->Nat->St->Hp->Prop,(∃m,W 0 m σ H)/\∀i m σ H,W i m σ H->
    ((Ite K a).stop i H/\D.nx σ H)\/((Ite K a).go i H/\∃N:St->Hp->Prop,(∀σ' H',N σ' H'->∃m',m' < m/\W (i+1) m' σ' H')/\∀x H',(Ite K a).yld i H x H'->g x σ H' fun σ2 H2=>tb {D with nx:=N,ct:=N,bk:=D.nx} σ2 H2):=by
 refine ⟨fun i m σ H=>m=xs.length - i/\i<=xs.length/\Pv i σ H,⟨xs.length,by simp,ee2 _,h0⟩,?_⟩;rintro i m σ H ⟨rfl,hi,p⟩;have q:=hl i σ H hi p
 by_cases hlt:i < xs.length
 · refine .inr ⟨⟨xs,xs[i],q,by simp [hlt]⟩,Pv (i+1),fun σ' H' p'=>⟨xs.length - (i+1),by omega,rfl,hlt,p'⟩,fun x H' y=> ?_⟩;obtain ⟨x',t,y1,y2,e1,e2⟩:=y;subst e1 e2;exact hs i x' σ _ t (y1 xs q) p y2
 · have e:i=xs.length:=by omega
   subst e;exact .inl ⟨⟨xs,q,ec6 _⟩,hd σ H p⟩
end L2
namespace Mth
def nx (p:List Int)(x:Int):Int:=p.getD x.toNat 0
def it (p:List Int):Nat->Int->Int
 |0,x=>x
 |i+1,x=>nx p (it p i x)
def In (p:List Int)(x:Int):Prop:=0<=x/\x < p.length
theorem bc7 {p:List Int}(t:A1 p){x:Int}(h:In p x):In p (nx p x):=da7 t (j:=x.toNat) (by have:=h.1;have:=h.2;omega)
theorem bs3 {p:List Int}(t:A1 p){x y:Int}(hx:In p x)(hy:In p y)(h:nx p x=nx p y):x=y:=by
 have a1:=hx.1;have a2:=hx.2;have b1:=hy.1;have b2:=hy.2
 by_cases e:x.toNat=y.toNat
 · omega
 · exact absurd h (S4 t.nd (i:=x.toNat) (j:=y.toNat) (by omega) (by omega) e)
theorem U8 {p:List Int}(t:A1 p){x:Int}(h:In p x):∀i,In p (it p i x)
 |0=>h
 |i+1=>bc7 t (U8 t h i)
theorem J8 (p:List Int)(x:Int):∀i j,it p (i+j) x=it p i (it p j x)
 |0,j=>by rw[en5];rfl
 |i+1,j=>by
  rw[Nat.add_right_comm];show nx p (it p (i+j) x)=nx p (it p i (it p j x));rw[J8 p x i j]
theorem di4 (p:List Int)(x:Int)(i:Nat):it p (i+1) x=it p i (nx p x):=by
 rw[J8 p x i 1];rfl
theorem ar8 {p:List Int}(t:A1 p){x y:Int}(hx:In p x)(hy:In p y):∀i,it p i x=it p i y->x=y
 |0,h=>h
 |i+1,h=>ar8 t hx hy i (bs3 t (U8 t hx i) (U8 t hy i) h)
structure J9 (p:List Int)(x:Int)(L:Nat):Prop where
 pos:0 < L
 back:it p L x=x
 least:∀i,0 < i->i < L->it p i x≠x
theorem J9.uniq {p:List Int}{x:Int}{L M:Nat}(h:J9 p x L)(g:J9 p x M):L=M:=by
 rcases es4 L M with z|z|z
 · exact absurd h.back (g.least L h.pos z)
 · exact z
 · exact absurd g.back (h.least M g.pos z)
theorem ar9 {p:List Int}{x:Int}{L:Nat}(h:it p L x=x):∀q,it p (L*q) x=x
 |0=>by rw[et4];rfl
 |q+1=>by rw[Nat.mul_succ,J8,h,ar9 h q]
theorem aj7 {p:List Int}{x:Int}{L:Nat}(h:it p L x=x)(i:Nat):it p (i%L) x=it p i x:=by
 conv=>rhs;rw[<-eq7 i L,ek3,J8,ar9 h]
theorem cf4 {p:List Int}{x:Int}{L:Nat}(h:it p L x=x){a b:Nat}(e:a%L=b%L):it p a x=it p b x:=by
 rw[<-aj7 h a,e,aj7 h]
theorem J9.shift {p:List Int}(t:A1 p){x:Int}{L:Nat}(hx:In p x)(h:J9 p x L)(j:Nat):J9 p (it p j x) L:=by
 refine ⟨h.pos,?_,fun i i0 i1 e=> ?_⟩
 · rw[<-J8,ek3,J8,h.back]
 · rw[<-J8,ek3,J8] at e;exact h.least i i0 i1 (ar8 t (U8 t hx i) hx j e)
def w9 (p:List Int)(x:Int)(L:Nat):List Int:=(eh4 L).map fun i=>it p i x
theorem A2 (p:List Int)(x:Int)(L:Nat):(w9 p x L).length=L:=by unfold w9;rw[eb8,eg9]
theorem cr8 {p:List Int}{x:Int}{L j:Nat}(h:j < L):(w9 p x L)[j]? =some (it p j x):=by
 unfold w9;rw[ec1,ej4 h];rfl
theorem N1 {p:List Int}{x:Int}{L j:Nat}(h:j < L):(w9 p x L).getD j 0=it p j x:=by
 rw[ed0,cr8 h];rfl
theorem C3 {p:List Int}{x y:Int}{L:Nat}:y∈w9 p x L↔∃j,j < L/\y=it p j x:=by
 unfold w9;rw[ee3];constructor
 · rintro ⟨j,hj,rfl⟩;exact ⟨j,eg8.mp hj,rfl⟩
 · rintro ⟨j,hj,rfl⟩;exact ⟨j,eg8.mpr hj,rfl⟩
theorem am4 (p:List Int)(x:Int)(m:Nat):w9 p x (m+1)=w9 p x m++[it p m x]:=by
 unfold w9;rw[List.range_succ,ec3];rfl
theorem Z8 {p:List Int}(t:A1 p){x:Int}(hx:In p x){m:Nat}(h:∀i,0 < i->i < m->it p i x≠x):(w9 p x m).Nodup:=by
 unfold w9;rw[ee6,en1];refine List.Pairwise.imp_of_mem (fun {a b} ha hb hlt e=> ?_) em5;have hb:=eg8.mp hb
 have e2:b=a+(b - a):=by omega
 rw[e2,J8] at e;exact h (b - a) (by omega) (by omega) (ar8 t (U8 t hx _) hx a e.symm)
theorem cr9:∀(n:Nat) (l:List Nat),l.Nodup->(∀x∈l,x < n)->l.length<=n:=by
 intro n
 induction n with
 |zero=>
  intro l _ hb
  cases l with
  |nil=>exact ec6 _
  |cons a r=>exact absurd (hb a ec5) (eu1 _)
 |succ n ih=>
  intro l nd hb
  by_cases hn:n∈l
  · obtain ⟨s,u,rfl⟩:=er4 hn;have pm:(s++n::u).Perm (n::(s++u)):=List.perm_middle;obtain ⟨h1,h2⟩:=eg7.mp (pm.nodup_iff.mp nd)
    have:=ih (s++u) h2 fun x hx=>by
      have hx':=hb x (pm.mem_iff.mpr (ec9 _ hx))
      have:x≠n:=fun e=>h1 (e▸hx)
      omega
    rw[pm.length_eq,ef6];omega
  · exact Nat.le_succ_of_le (ih l nd fun x hx=>by
      have h1:=hb x hx
      have:x≠n:=fun e=>hn (e▸hx)
      omega)
theorem K9 {p:List Int}{r:List Int}(nd:r.Nodup)(h:∀x∈r,In p x):r.length<=p.length:=by
 have:=cr9 p.length (r.map el8) (by
   rw[ee6,en1];refine List.Pairwise.imp_of_mem (fun {a b} ha hb hne z=>hne ?_) (ee6.mp nd);have h1:=(h a ha).1;have h2:=(h b hb).1
   omega) fun x hx=>by
     obtain ⟨y,hy,rfl⟩:=ee3.mp hx;have h1:=(h y hy).1;have h2:=(h y hy).2;omega
 rw[eb8] at this;exact this
theorem V4 {p:List Int}(t:A1 p){x:Int}(hx:In p x){L:Nat}:∀y∈w9 p x L,In p y:=fun y hy=>by
 obtain ⟨j,_,rfl⟩:=C3.mp hy;exact U8 t hx j
theorem O2 {p:List Int}(t:A1 p){x:Int}(hx:In p x){m:Nat}(h:∀i,0 < i->i < m->it p i x≠x):m<=p.length:=by
 have:=K9 (Z8 t hx h) (V4 t hx);rw[A2] at this;exact this
theorem cb2 {p:List Int}{x y:Int}{L:Nat}(h:J9 p x L)(hy:y∈w9 p x L)(i:Nat):it p i y∈w9 p x L:=by
 obtain ⟨j,hj,rfl⟩:=C3.mp hy;refine C3.mpr ⟨(i+j)%L,ei2 _ h.pos,?_⟩;rw[aj7 h.back,J8]
theorem cs0 {p:List Int}{x y z:Int}{L M:Nat}(h:J9 p x L)(g:J9 p y M)(h1:z∈w9 p x L)(h2:z∈w9 p y M):y∈w9 p x L:=by
 obtain ⟨j,hj,rfl⟩:=C3.mp h2;have:=cb2 h h1 (M - j);rw[<-J8,show M - j+j=M by omega,g.back] at this;exact this
open Classical in
noncomputable def W9 (p:List Int)(x:Int):Nat:=if h:∃L,J9 p x L then Classical.choose h else 0
theorem V5 {p:List Int}{x:Int}{L:Nat}(h:J9 p x L):W9 p x=L:=by
 have hx:∃L,J9 p x L:=⟨L,h⟩;unfold W9;rw[dif_pos hx];exact (Classical.choose_spec hx).uniq h
noncomputable def w5 (p:List Int):Nat->List (List Int)
 |0=>[]
 |i+1=>if (i:Int)∈(w5 p i).flatten then w5 p i else w5 p i++[w9 p i (W9 p i)]
structure C4 (p:List Int)(i:Nat)(rs:List (List Int)):Prop where
 ring:∀r∈rs,∃x L,In p x/\J9 p x L/\r=w9 p x L/\(∀y∈r,x<=y)/\x < i
 nd:rs.flatten.Nodup
 all:∀u:Int,0<=u->u < i->u∈rs.flatten
 ord:rs.Pairwise fun r s=>r.getD 0 0 < s.getD 0 0
 eq:rs=w5 p i
theorem am5 (p:List Int):C4 p 0 []:=⟨fun r hr=>by simp at hr,ek7,fun u h1 h2=>by omega,List.Pairwise.nil,rfl⟩
theorem am6 {p:List Int}{i:Nat}{rs:List (List Int)}(h:C4 p i rs)(hi:(i:Int)∈rs.flatten):C4 p (i+1) rs:=by
 refine ⟨fun r hr=> ?_,h.nd,fun u h1 h2=> ?_,h.ord,?_⟩
 · obtain ⟨x,L,a,b,c,d,e⟩:=h.ring r hr;exact ⟨x,L,a,b,c,d,by omega⟩
 · by_cases e:u=i
   · subst e;exact hi
   · exact h.all u h1 (by omega)
 · show rs=if (i:Int)∈(w5 p i).flatten then w5 p i else w5 p i++[w9 p i (W9 p i)]
   rw[<-h.eq,if_pos hi]
theorem ah8 {p:List Int}{i:Nat}{rs:List (List Int)}(h:C4 p i rs){L:Nat}(hL:J9 p i L)(hi:(i:Int)∉rs.flatten):∀y∈w9 p i L,y∉rs.flatten:=by
 intro y hy hm;obtain ⟨r,hr,hyr⟩:=ef1.mp hm;obtain ⟨x,M,a,b,rfl,d,e⟩:=h.ring r hr;exact hi (ef1.mpr ⟨_,hr,cs0 b hL hyr hy⟩)
theorem am7 {p:List Int}(t:A1 p){i:Nat}{rs:List (List Int)}(h:C4 p i rs)(hx:In p i){L:Nat}(hL:J9 p i L)(hi:(i:Int)∉rs.flatten):C4 p (i+1) (rs++[w9 p i L]):=by
 have fr:=ah8 h hL hi;refine ⟨fun r hr=> ?_,?_,fun u h1 h2=> ?_,?_,?_⟩
 · rcases ed8.mp hr with z|z
   · obtain ⟨x,L,a,b,c,d,e⟩:=h.ring r z;exact ⟨x,L,a,b,c,d,by omega⟩
   · have:r=w9 p i L:=by simpa using z
     subst this;refine ⟨i,L,hx,hL,rfl,fun y hy=> ?_,by omega⟩;have y0:=(V4 t hx y hy).1
     by_cases hlt:y < i
     · exact absurd (h.all y y0 hlt) (fr y hy)
     · omega
 · rw[eg3,ei8];refine eg5.mpr ⟨h.nd,Z8 t hx fun j j0 j1=>hL.least j j0 j1,fun a ha b hb e=> ?_⟩;subst e;exact fr a hb ha
 · rw[eg3,ei8]
   by_cases e:u=i
   · subst e;exact ed4 _ (C3.mpr ⟨0,hL.pos,rfl⟩)
   · exact eg0 _ (h.all u h1 (by omega))
 · refine eq3.mpr ⟨h.ord,List.pairwise_singleton _ _,fun r hr s hs=> ?_⟩
   have:s=w9 p i L:=by simpa using hs
   subst this;obtain ⟨x,M,a,b,rfl,d,e⟩:=h.ring r hr;rw[N1 b.pos,N1 hL.pos];exact e
 · show rs++[w9 p i L]=if (i:Int)∈(w5 p i).flatten then w5 p i else w5 p i++[w9 p i (W9 p i)]
   rw[<-h.eq,if_neg hi,V5 hL]
def N6 (p:List Int)(k:Int)(t:List Int):Prop:=t.length=p.length/\∀x,In p x->∃L,J9 p x L/\A4 t x=some (it p (k%(L:Int)).toNat x)
theorem ck5 {p:List Int}{x:Int}{L:Nat}(h:J9 p x L)(k:Int)(j:Nat):it p (((j:Int)+k)%(L:Int)).toNat x=it p (k%(L:Int)).toNat (it p j x):=by
 rw[<-J8];refine cf4 h.back ?_
 have hL:(0:Int) < (L:Int):=by have:=h.pos;omega
 have a1:=eg6 ((j:Int)+k) (show (L:Int)≠0 by omega);have b1:=eg6 k (show (L:Int)≠0 by omega)
 have:(((((j:Int)+k)%(L:Int)).toNat%L:Nat):Int)=((((k%(L:Int)).toNat+j)%L:Nat):Int):=by
   rw[ei1,ei1,ek6 a1,Int.natCast_add,ek6 b1,Int.emod_emod,Int.emod_add_emod,Int.add_comm]
 exact Int.ofNat.inj this
end Mth
namespace Mth
theorem bc8 {p:List Int}{x:Int}(h:In p x):A4 p x=some (nx p x):=by
 have a1:=h.1;have a2:=h.2;unfold A4 nx;rw[ed0,eb9 (by omega)];rfl
end Mth
namespace L2
open PySem PySem.Spec PyProof.Rows
def du5 (i j:Int):Prop:=0 < j/\j<=1000000000000000000000000000000
theorem am8 {X:Cx}:M8 X (binaryOp .FloorDiv) (rI du5 fun i j=> .int (i/j)):=opI fun i j _ _ _ _ _ hc q=>by
 have hp:Builtin.divisionGoesByPylong i j=false:=by
   refine PyProof.noPylong_of_log2 ?_;obtain ⟨h1,h2⟩:=hc;have:j.natAbs < 2^9000:=el9 (show j.natAbs<=1000000000000000000000000000000 by omega) (by decide+kernel);exact (Nat.log2_lt (by omega)).mpr this
 refine floordiv_int (by have:=hc.1;omega) ?_ (.inl hp);rw[er6 i (by have:=hc.1;omega)];exact q
end L2
namespace Mth
theorem N6.uniq {p:List Int}{k:Int}{s t:List Int}(h:N6 p k s)(g:N6 p k t):s=t:=by
 refine ei4 fun u=> ?_
 by_cases hu:u < p.length
 · have hx:In p (u:Int):=⟨by omega,by omega⟩;obtain ⟨L,h1,h2⟩:=h.2 u hx;obtain ⟨M,g1,g2⟩:=g.2 u hx;have e:=h1.uniq g1;subst e;unfold A4 at h2 g2;rw[ed7] at h2 g2;rw[h2,g2]
 · rw[ed5 (by rw[h.1];omega),ed5 (by rw[g.1];omega)]
end Mth
namespace Mth
theorem bc9 {p:List Int}(t:A1 p){x:Int}(hx:In p x):∃L,J9 p x L:=by
 have h0:∃i,0 < i/\i<=p.length/\it p i x=x:=Classical.byContradiction fun hn=>by
   have:=O2 t hx (m:=p.length+1) fun i i0 i1 e=>hn ⟨i,i0,by omega,e⟩
   omega
 have key:∀n,(∃i,0 < i/\i<=n/\it p i x=x)->∃L,J9 p x L:=by
   intro n
   induction n with
   |zero=>rintro ⟨i,i0,i1,_⟩;omega
   |succ n ih=>
    rintro ⟨i,i0,i1,e⟩
    by_cases h:∃j,0 < j/\j<=n/\it p j x=x
    · exact ih h
    · refine ⟨i,i0,e,fun j j0 j1 ej=>h ⟨j,j0,by omega,ej⟩⟩
 exact key _ h0
theorem di5 {p:List Int}{x:Int}{L:Nat}(h:J9 p x L){i:Nat}(e:it p i x=x):L∣i:=by
 rw[<-aj7 h.back] at e;refine em6 (Classical.byContradiction fun hn=> ?_);exact h.least (i%L) (by omega) (ei2 _ h.pos) e
theorem bs4 {p:List Int}{x:Int}{L:Nat}(h:J9 p x L){a b:Nat}(e:((a:Int) - (b:Int))%(L:Int)=0):it p a x=it p b x:=by
 refine cf4 h.back ?_
 have:((a%L:Nat):Int)=((b%L:Nat):Int):=by
   rw[ei1,ei1]
   exact Int.emod_emod_of_dvd _ (Int.dvd_refl _)|>.symm.trans (by
     rw[Int.emod_emod]
     exact (Int.emod_eq_emod_iff_emod_sub_eq_zero).mpr e)
 exact Int.ofNat.inj this
theorem dp5 {n:Nat}{s t:List Int}(hs:s.length=n)(ht:t.length=n)(h:∀x:Int,0<=x->x < n->nx s x=nx t x):s=t:=by
 refine ei4 fun u=> ?_
 by_cases hu:u < n
 · have:=h u (by omega) (by omega);unfold nx at this;rw[ed7,B0 (by omega),B0 (by omega)] at this;rw[eb9 (by omega),eb9 (by omega),this]
 · rw[ed5 (by omega),ed5 (by omega)]
theorem as0 {t:List Int}(h1:∀x:Int,0<=x->x < t.length->0<=nx t x/\nx t x < t.length)(h2:∀x y:Int,0<=x->x < t.length->0<=y->y < t.length->nx t x=nx t y->x=y):A1 t:=by
 have g:∀i (hi:i < t.length),nx t (i:Int)=t[i]:=fun i hi=>by unfold nx;rw[ed7,B0 hi]
 refine ⟨?_,fun x hx=> ?_,fun x hx=> ?_⟩
 · rw[ee6,ef8];intro i j hi hj hlt e;have:=h2 i j (by omega) (by omega) (by omega) (by omega) (by rw[g i hi,g j hj];exact e);omega
 · obtain ⟨i,hi,rfl⟩:=List.mem_iff_getElem.mp hx;rw[<-g i hi];exact (h1 i (by omega) (by omega)).1
 · obtain ⟨i,hi,rfl⟩:=List.mem_iff_getElem.mp hx;rw[<-g i hi];exact (h1 i (by omega) (by omega)).2
theorem bg6 {p q:List Int}{x:Int}(h:In q x):nx (B4 p q) x=nx p (nx q x):=by
 have a1:=h.1;have a2:=h.2;unfold nx B4;rw[ed0,ec1,eb9 (by omega),ed0 (l:=q),eb9 (by omega)];rfl
theorem bs5 {p q:List Int}(tp:A1 p)(tq:A1 q)(hl:p.length=q.length):A1 (B4 p q):=by
 have cl:=aw8 p q;refine as0 (fun x x0 x1=> ?_) (fun x y x0 x1 y0 y1 e=> ?_)
 · rw[cl] at x1 ⊢;have hx:In q x:=⟨x0,x1⟩;rw[bg6 hx];have h1:=bc7 tq hx;have h2:=bc7 tp (x:=nx q x) ⟨h1.1,by rw[hl];exact h1.2⟩;exact ⟨h2.1,by rw[<-hl];exact h2.2⟩
 · rw[cl] at x1 y1;have hx:In q x:=⟨x0,x1⟩;have hy:In q y:=⟨y0,y1⟩;rw[bg6 hx,bg6 hy] at e;have h1:=bc7 tq hx;have h2:=bc7 tq hy;exact bs3 tq hx hy (bs3 tp ⟨h1.1,by rw[hl];exact h1.2⟩ ⟨h2.1,by rw[hl];exact h2.2⟩ e)
theorem cs3 {p t:List Int}{k:Int}(h:N6 p k t){x:Int}(hx:In p x):∃L,J9 p x L/\∀m:Nat,((m:Int) - k)%(L:Int)=0->nx t x=it p m x:=by
 obtain ⟨L,hL,e⟩:=h.2 x hx;refine ⟨L,hL,fun m hm=> ?_⟩
 have e1:nx t x=it p (k%(L:Int)).toNat x:=by
   have hx':In t x:=⟨hx.1,by rw[h.1];exact hx.2⟩;rw[bc8 hx'] at e;exact Option.some.inj e
 rw[e1];refine bs4 hL ?_;have b0:=eg6 k (show (L:Int)≠0 by have:=hL.pos;omega);rw[ek6 b0]
 have:k%(L:Int) - (m:Int)= -(((m:Int) - k)+(k - k%(L:Int))):=by omega
 rw[this];have d1:(L:Int)∣((m:Int) - k):=Int.dvd_of_emod_eq_zero hm;have d2:(L:Int)∣(k - k%(L:Int)):=eq0;exact ep0 (Int.dvd_neg.mpr (Int.dvd_add d1 d2))
theorem dp6 {p t:List Int}{k:Int}(tp:A1 p)(hl:t.length=p.length)(h:∀x,In p x->∀L,J9 p x L->∃m:Nat,((m:Int) - k)%(L:Int)=0/\nx t x=it p m x):N6 p k t:=by
 refine ⟨hl,fun x hx=> ?_⟩;obtain ⟨L,hL⟩:=bc9 tp hx;obtain ⟨m,hm,e⟩:=h x hx L hL;refine ⟨L,hL,?_⟩;rw[bc8 (p:=t) ⟨hx.1,by rw[hl];exact hx.2⟩,e]
 congr 1
 refine bs4 hL ?_;have b0:=eg6 k (show (L:Int)≠0 by have:=hL.pos;omega);rw[ek6 b0]
 have:(m:Int) - k%(L:Int)=((m:Int) - k)+(k - k%(L:Int)):=by omega
 rw[this];exact ep0 (Int.dvd_add (Int.dvd_of_emod_eq_zero hm) eq0)
theorem da8 (k:Int)(L:Nat)(h:0 < L):(((k%(L:Int)).toNat:Int) - k)%(L:Int)=0:=by
 have b0:=eg6 k (show (L:Int)≠0 by omega);rw[ek6 b0]
 have:k%(L:Int) - k= -(k - k%(L:Int)):=by omega
 rw[this];exact ep0 (Int.dvd_neg.mpr eq0)
theorem cf5 {p t:List Int}{k:Int}(tp:A1 p)(h:N6 p k t):A1 t:=by
 have tx:∀x,In p x->∃L,J9 p x L/\nx t x=it p (k%(L:Int)).toNat x:=fun x hx=>by
   obtain ⟨L,hL,e⟩:=cs3 h hx;exact ⟨L,hL,e _ (da8 k L hL.pos)⟩
 refine as0 (fun x x0 x1=> ?_) (fun x y x0 x1 y0 y1 e=> ?_)
 · rw[h.1] at x1 ⊢;obtain ⟨L,hL,e⟩:=tx x ⟨x0,x1⟩;rw[e];exact U8 tp ⟨x0,x1⟩ _
 · rw[h.1] at x1 y1;obtain ⟨L,hL,e1⟩:=tx x ⟨x0,x1⟩;obtain ⟨M,hM,e2⟩:=tx y ⟨y0,y1⟩;rw[e1,e2] at e;have pL:=hL.shift tp ⟨x0,x1⟩ (k%(L:Int)).toNat;have pM:=hM.shift tp ⟨y0,y1⟩ (k%(M:Int)).toNat;rw[e] at pL;have:=pL.uniq pM;subst this;exact ar8 tp ⟨x0,x1⟩ ⟨y0,y1⟩ _ e
end Mth
namespace L2
open PySem PySem.Spec PyProof.Rows
def Itz (a b:Addr):It:=
 ⟨fun i H=>∃xs ys x y,H a=some (.lst xs)/\H b=some (.lst ys)/\xs[i]? =some x/\ys[i]? =some y,
  fun i H v H'=>∃x y t,(∀xs,H a=some (.lst xs)->xs[i]? =some x)/\(∀ys,H b=some (.lst ys)->ys[i]? =some y)/\H t=none/\v= .ref t/\H'=i8 H t (.tup [x,y]),
  fun i H=>∃xs ys,H a=some (.lst xs)/\H b=some (.lst ys)/\(xs.length<=i\/ys.length<=i)⟩
structure bd0 (z TI TO i1 i2:Addr):Prop where
 TIz:TI≠z
 TOz:TO≠z
 i1z:i1≠z
 i2z:i2≠z
 TITO:TI≠TO
 TIi1:TI≠i1
 TIi2:TI≠i2
 TOi1:TO≠i1
 TOi2:TO≠i2
 i12:i1≠i2
theorem da9 {P:Program}{w:World}{K:PySem.W.Frag}{elts:List Expr}{x1}{pos:Pos}(a b z TI TO i1 i2:Addr)(D0:bd0 z TI TO i1 i2):
   al4 P w K (.Tuple elts x1 pos) (Itz a b) [z,TI,TO,i1,i2] z (fun i h=>IsZip h z TI TO .none/\IsPair h TI (.ref i1) (.ref i2)/\(∃u v,IsPair h TO u v)/\h.IsListIter i1 a i/\h.IsListIter i2 b i) where
 mem:=by simp
 obj:=fun i h st c hc=>by
   obtain ⟨hz,hTI,⟨u,v,hTO⟩,⟨o1,g1,c1,d1⟩,⟨o2,g2,c2,d2⟩⟩:=st
   have hc:c=z\/c=TI\/c=TO\/c=i1\/c=i2:=by simpa using hc
   rcases hc with rfl|rfl|rfl|rfl|rfl
   · exact ⟨_,hz,fun v z=>by cases z⟩
   · exact ⟨_,hTI,fun v z=>by cases z⟩
   · exact ⟨_,hTO,fun v z=>by cases z⟩
   · exact ⟨o1,g1,fun v z=>by rw[d1] at z;cases z⟩
   · exact ⟨o2,g2,fun v z=>by rw[d2] at z;cases z⟩
 keep:=fun i h h' st k=>by
   obtain ⟨hz,hTI,⟨u,v,hTO⟩,g1,g2⟩:=st;exact ⟨k z (by simp) _ hz,k TI (by simp) _ hTI,⟨u,v,k TO (by simp) _ hTO⟩,g1.at fun o q=>k i1 (by simp) o q,g2.at fun o q=>k i2 (by simp) o q⟩
 item:=by
   intro X hP hw hK hc i pins s σ H E I hf st hg;subst hP hw hK;obtain ⟨hz,hTI,⟨u0,v0,hTO⟩,g1,g2⟩:=st;obtain ⟨xs,ys,x,y,ha,hb,hx,hy⟩:=hg;obtain ⟨_,its,n1,rv,l1,e1⟩:=I.lstM ha;obtain ⟨_,its2,n2,rv2,l2,e2⟩:=I.lstM hb;obtain ⟨ux,hux,rux⟩:=rv.get hx;obtain ⟨uy,huy,ruy⟩:=rv2.get hy
   have nf:∀c u',H c=some u'->c≠z/\c≠TI/\c≠TO/\c≠i1/\c≠i2:=fun c u' q=>by
     have f:∀d∈[z,TI,TO,i1,i2],c≠d:=fun d hd w=>by
       have:=(hf d hd).1;rw[<-w,q] at this;cases this
     exact ⟨f z (by simp),f TI (by simp),f TO (by simp),f i1 (by simp),f i2 (by simp)⟩
   have na:=nf a _ ha;have nb:=nf b _ hb;have D:ZipApart z TI TO i1 i2 a b:=⟨D0.TIz,D0.TOz,D0.i1z,D0.i2z,D0.TITO,D0.TIi1,D0.TIi2,D0.TOi1,D0.TOi2,D0.i12,na.1,na.2.2.1,na.2.2.2.1,na.2.2.2.2,nb.1,nb.2.2.1,nb.2.2.2.1,nb.2.2.2.2⟩
   refine wpAny_pyNext_zip_item (xs:=its.toArray) (ys:=its2.toArray) (x:=ux) (y:=uy) D hz hTI hTO g1 g2 ⟨_,e1,rfl,n1,rfl⟩ ⟨_,e2,rfl,n2,rfl⟩ (by simpa using hux) (by simpa using huy) fun h' hz' hTO' g1' g2' hT' hsz' kk'=> ?_
   refine ⟨_,rfl,wpAny_letOwnedTupleGo_zip hz' fun h2 hz2 hs2=> ?_⟩;have hs2:Heap.SameBut z h' h2:=hs2;have ltz:z < s.heap.objs.size:=Heap.lt_size hz;have lTI:TI < s.heap.objs.size:=Heap.lt_size hTI;have lTO:TO < s.heap.objs.size:=Heap.lt_size hTO
   have li1:i1 < s.heap.objs.size:=by obtain ⟨o,ho,_⟩:=g1;exact Heap.lt_size ho
   have li2:i2 < s.heap.objs.size:=by obtain ⟨o,ho,_⟩:=g2;exact Heap.lt_size ho
   have ht2:h2.get? s.heap.objs.size=some {cls:= .type "tuple",data:= .seq #[ux,uy]}:=hs2.extBut _ _ (eq8 ltz) hT'
   have kk:∀c o,c≠z->c≠TO->c≠i1->c≠i2->s.heap.get? c=some o->h2.get? c=some o:=fun c o b1 b2 b3 b4 q=>hs2.extBut c o b1 (kk' c o b1 b2 b3 b4 q)
   have hn:H s.heap.objs.size=none:=I.hok.fresh (ec6 _)
   have nT:∀c u',H c=some u'->c≠s.heap.objs.size:=fun c u' q=>i4 q hn
   have kc:∀c o,c∉[z,TI,TO,i1,i2]->s.heap.get? c=some o->h2.get? c=some o:=fun c o hc q=>kk c o (fun w=>hc (by simp [w])) (fun w=>hc (by simp [w])) (fun w=>hc (by simp [w])) (fun w=>hc (by simp [w])) q
   have I1:i9 X pins σ (i8 H s.heap.objs.size (.tup [x,y])) {s with heap:=h2,gens:=s.gens,drawn:=s.drawn,toks:=s.toks}:=by
     refine I.step (ch:=[z,TI,TO,i1,i2]) (fun c hc=> ?_) (fun c o _ _ hc q _=>kc c o hc q) (fun c o _ _ hc q _=>⟨o.slots,kc c o hc q⟩)
       (fun c o hc q n=>by rw[i6 (ed2 (Heap.lt_size q))];exact n) (fun c o hc q=>⟨o,kc c o hc q⟩)
       (fun c zs q=>by rw[i6 (nT c _ q)];exact q) (fun c o zs q=>by rw[i6 (nT c _ q)];exact q) (fun c ps q=>⟨#[],by rw[i6 (nT c _ q),q];simp⟩) (fun m hm=> ?_) (fun c u' q=> ?_) I.bare
     · have f:=hf c hc;exact ⟨f.2.2.2.1,f.2.1,f.2.2.2.2.1,f.2.2.2.2.2⟩
     · obtain ⟨o,es,ep,ho,r⟩:=hm;exact ⟨o,es,ep,kk _ o (Ne.symm (hf z (by simp)).2.1) (Ne.symm (hf TO (by simp)).2.1) (Ne.symm (hf i1 (by simp)).2.1) (Ne.symm (hf i2 (by simp)).2.1) ho,r⟩
     · by_cases hcT:c=s.heap.objs.size
       · subst hcT;rw[c9] at q;cases q;exact ⟨by show 2<=sizeLine;decide,[ux,uy],.cons rux (.cons ruy .nil),⟨_,ht2,rfl,0,rfl⟩⟩
       · rw[i6 hcT] at q
         refine (I.hok c u' q).stay (fun d v hd q'=> ?_) (fun d q'=>by rw[i6 (nT d _ q')];exact q') fun d zs q'=>by rw[i6 (nT d _ q')];exact q'
         rcases hd with w|w
         · rw[w] at q' ⊢;have:=nf c _ q;exact kk c v this.1 this.2.2.1 this.2.2.2.1 this.2.2.2.2 q'
         · have:=nf d _ w;exact kk d v this.1 this.2.2.1 this.2.2.2.1 this.2.2.2.2 q'
   refine ⟨.ref s.heap.objs.size,_,I1,rfl,⟨x,y,s.heap.objs.size,fun zs hzs=> ?_,fun zs hzs=> ?_,hn,rfl,rfl⟩,⟨hz2,?_,⟨ux,uy,?_⟩,?_,?_⟩,fun c hc=> ?_⟩
   · rw[ha] at hzs;cases hzs;exact hx
   · rw[hb] at hzs;cases hzs;exact hy
   · exact kk TI _ D0.TIz D0.TITO D0.TIi1 D0.TIi2 hTI
   · exact hs2.extBut _ _ D0.TOz hTO'
   · exact g1'.extBut hs2.extBut D0.i1z
   · exact g2'.extBut hs2.extBut D0.i2z
   · have hne:c≠s.heap.objs.size:=by
       have hc:c=z\/c=TI\/c=TO\/c=i1\/c=i2:=by simpa using hc
       rcases hc with rfl|rfl|rfl|rfl|rfl
       · exact ed2 ltz
       · exact ed2 lTI
       · exact ed2 lTO
       · exact ed2 li1
       · exact ed2 li2
     rw[i6 hne];exact (hf c hc).1
 done:=by
   intro X hP hw hK hc i pins s σ H E I hf st hg;subst hP hw hK;obtain ⟨hz,hTI,⟨u0,v0,hTO⟩,g1,g2⟩:=st;obtain ⟨xs,ys,ha,hb,hend⟩:=hg;obtain ⟨_,its,n1,rv,l1,e1⟩:=I.lstM ha;obtain ⟨_,its2,n2,rv2,l2,e2⟩:=I.lstM hb
   have nf:∀c u',H c=some u'->c≠z/\c≠TI/\c≠TO/\c≠i1/\c≠i2:=fun c u' q=>by
     have f:∀d∈[z,TI,TO,i1,i2],c≠d:=fun d hd w=>by
       have:=(hf d hd).1;rw[<-w,q] at this;cases this
     exact ⟨f z (by simp),f TI (by simp),f TO (by simp),f i1 (by simp),f i2 (by simp)⟩
   have na:=nf a _ ha;have nb:=nf b _ hb;have D:ZipApart z TI TO i1 i2 a b:=⟨D0.TIz,D0.TOz,D0.i1z,D0.i2z,D0.TITO,D0.TIi1,D0.TIi2,D0.TOi1,D0.TOi2,D0.i12,na.1,na.2.2.1,na.2.2.2.1,na.2.2.2.2,nb.1,nb.2.2.1,nb.2.2.2.1,nb.2.2.2.2⟩
   refine wpAny_pyNext_zip_end (xs:=its.toArray) (ys:=its2.toArray) (I.ok.hd hc) D hz hTI hTO g1 g2 ⟨_,e1,rfl,n1,rfl⟩ ⟨_,e2,rfl,n2,rfl⟩ ?_ fun h' kk=>⟨rfl,?_⟩
   · rcases hend with w|w
     · exact .inl (by simp;omega)
     · exact .inr (by simp;omega)
   · have kc:∀c o,c∉[z,TI,TO,i1,i2]->s.heap.get? c=some o->h'.get? c=some o:=fun c o hc q=>kk c o (fun w=>hc (by simp [w])) (fun w=>hc (by simp [w])) (fun w=>hc (by simp [w])) (fun w=>hc (by simp [w])) q
     refine I.step (g':=s.gens) (d':=s.drawn) (t':=s.toks) (ch:=[z,TI,TO,i1,i2]) (fun c hc=> ?_) (fun c o _ _ hc q _=>kc c o hc q) (fun c o _ _ hc q _=>⟨o.slots,kc c o hc q⟩)
       (fun c o hc q n=>n) (fun c o hc q=>by
         by_cases hz':c∈[z,TI,TO,i1,i2]
         · exact absurd hz' hc
         · exact ⟨o,kc c o hz' q⟩) (fun c zs q=>q) (fun c o zs q=>q) (fun c ps q=>⟨#[],by rw[q];simp⟩) (fun m hm=> ?_) (fun c u' q=> ?_) I.bare
     · have f:=hf c hc;exact ⟨f.2.2.2.1,f.2.1,f.2.2.2.2.1,f.2.2.2.2.2⟩
     · obtain ⟨o,es,ep,ho,r⟩:=hm;exact ⟨o,es,ep,kk _ o (Ne.symm (hf z (by simp)).2.1) (Ne.symm (hf TO (by simp)).2.1) (Ne.symm (hf i1 (by simp)).2.1) (Ne.symm (hf i2 (by simp)).2.1) ho,r⟩
     · refine (I.hok c u' q).stay (fun d v hd q'=> ?_) (fun d q'=>q') fun d zs q'=>q'
       rcases hd with w|w
       · rw[w] at q' ⊢;have:=nf c _ q;exact kk c v this.1 this.2.2.1 this.2.2.2.1 this.2.2.2.2 q'
       · have:=nf d _ w;exact kk d v this.1 this.2.2.1 this.2.2.2.1 this.2.2.2.2 q'
 self:=fun _ _ _ _ _ st h=>wpAny_pyIter_zip st.1 h
theorem bs6:bootBuiltins "zip"=some (.type "zip"):=by decide+kernel
section
variable {X:Cx} {l m:Expr} {ta:TA} {p pos:Pos} {elts:List Expr} {x1:Nat} {tpos:Pos}
def dz5 (ta:TA):TI:=fun σ H R=>ta σ H fun vs H1=>∃a b xs ys,vs=[.ref a,.ref b]/\H1 a=some (.lst xs)/\H1 b=some (.lst ys)/\R (Itz a b) H1
theorem cs5 (hm:X.mg "zip"=none)(ha:PA X [l,m] ta)(hg:Gl X "zip":=by rfl)(hs:starEach [l,m] X.env=(false,eval l X.env)::starEach [m] X.env:=by rfl)(hpl:(backTo pos (starEach [m] X.env)).any (·.1)=false:=by rfl):
   PI X (.Tuple elts x1 tpos) (.Call (.Name "zip" p) [l,m] [] pos) (dz5 ta):=by
 intro pins s σ H R I h;refine Call_ (Q2 I hg hm bs6 (PyProof.Rows.callWith_type1 (r6 (ha pos pins s σ H _ I h) fun us s1 ⟨vs,H1,I1,r1,q1⟩=> ?_) hs hpl));obtain ⟨a,b,xs,ys,e,h1a,h1b,q⟩:=q1;subst e;obtain ⟨u,w',rfl,ru,rw'⟩:=al5 r1;cases ru;cases rw';obtain ⟨_,its,n1,rv,l1,e1⟩:=I1.lstM h1a;obtain ⟨_,its2,n2,rv2,l2,e2⟩:=I1.lstM h1b
 refine call_zip_2 (xs:=its.toArray) (ys:=its2.toArray) ⟨_,e1,rfl,n1,rfl⟩ ⟨_,e2,rfl,n2,rfl⟩ fun h' hz hTI hTO g1 g2 hsz hk=> ?_
 refine wpAny_pyIter_zip hz ?_;have I2:i9 X pins σ H1 {s1 with heap:=h',toks:=s1.toks}:=I1.kept (t':=s1.toks) hk
 have ne:∀(i j:Nat),i≠j->s1.heap.objs.size+i≠s1.heap.objs.size+j:=fun i j h e=>h (Nat.add_left_cancel e)
 refine ⟨s1.heap.objs.size+4,[s1.heap.objs.size+4,s1.heap.objs.size+2,s1.heap.objs.size+3,s1.heap.objs.size,s1.heap.objs.size+1],_,_,H1,rfl,I2,
   da9 a b (s1.heap.objs.size+4) (s1.heap.objs.size+2) (s1.heap.objs.size+3) s1.heap.objs.size (s1.heap.objs.size+1) ⟨ne 2 4 (by decide),ne 3 4 (by decide),ne 0 4 (by decide),ne 1 4 (by decide),ne 2 3 (by decide),ne 2 0 (by decide),ne 2 1 (by decide),ne 3 0 (by decide),ne 3 1 (by decide),ne 0 1 (by decide)⟩,
   ⟨hz,hTI,⟨_,_,hTO⟩,g1,g2⟩,fun c hc=> ?_,q⟩
 have hle:s1.heap.objs.size<=c:=by
   simp only[ec8,List.mem_nil_iff,or_false] at hc
   rcases hc with rfl|rfl|rfl|rfl|rfl
   · exact el7 _ _
   · exact el7 _ _
   · exact el7 _ _
   · exact ec6 _
   · exact el7 _ _
 exact I1.fpOk hle (I1.hok.fresh hle)
end
end L2
namespace L2
open PySem PySem.Spec PyProof.Rows
theorem di6 (K:PySem.W.Frag){X:Cx}{es:List Expr}{k:Nat}{t:TGs}{n:Nat}{pos:Pos}(hc:X.calm=true)(h:PGs X es t)(hK:X.K=K:=by rfl)
   (hn:(assignEach es X.env).length=n:=by rfl) (hst:(assignEach es X.env).findIdx? (·.1)=none:=by rfl):PG X (.Tuple es k pos) (dn5 K n t):=by
 subst hK;exact ad1 hc h hn hst
end L2
namespace L2
open PySem PySem.Spec PyProof.Rows
section
variable {X:Cx} {o e:Expr} {to:TE} {t:TA} {apos pos p:Pos}
theorem cs6 (ho:PE X o to)(ha:PA X [e] t)
   (hbase:attributeBase o "extend" X.env (eval o X.env)=eval o X.env:=by rfl)
   (hfew:((backTo pos (starEach [e] X.env)).all (fun x=> !x.1)&&(backToKw pos (keywordEach [] X.env)).all (fun x=>x.1.isSome)
     &&decide ([e].length+([]:List Keyword).length+(if ([]:List Keyword).isEmpty then 0 else 1) < 30))=true:=by rfl)
   (hline:(apos.endLine==pos.line)=true:=by rfl) (hs:starEach [e] X.env=(false,eval e X.env)::starEach [] X.env:=by rfl) (hplain:(backTo pos (starEach [] X.env)).any (·.1)=false:=by rfl):
   PE X (.Call (.Attribute o "extend" apos) [e] [] pos) (tBM X.K "list" ce9 to t):=
 W8 PySem.F.plainAttrs_list PySem.F.slot_list_extend PySem.F.type_list_extend cp7 ho ha hbase hfew hline hs hplain
end
theorem bs7 (xs:List V)(k:Nat)(h:k<=xs.length):ad7 xs (some (k:Int)) none=xs.drop k:=by
 unfold ad7;rw[HT.ea7,HT.dy7,Nat.min_eq_left h,eh3 (by rw[ei0];omega)]
end L2
namespace Mth
theorem M4 {p:List Int}{rs:List (List Int)}(t:A1 p)(h:C4 p p.length rs):rs.flatten.Perm (L2.Q5 0 p.length):=by
 have i1:A1 rs.flatten:=by
   have hin:∀x∈rs.flatten,In p x:=fun x hx=>by
     obtain ⟨r,hr,hxr⟩:=ef1.mp hx;obtain ⟨y,L,a,b,rfl,_⟩:=h.ring r hr;exact V4 t a x hxr
   have l1:=K9 h.nd hin
   have l2:p.length<=rs.flatten.length:=by
     have:=K9 (p:=rs.flatten) (r:=L2.Q5 0 p.length) (N0 _) fun x hx=>by
       have hx':=I0.mp hx;obtain ⟨r,hr,hxr⟩:=ef1.mp (h.all x hx'.1 hx'.2);refine ⟨hx'.1,?_⟩
       exact Classical.byContradiction fun hn=>by
         have hle:(rs.flatten.length:Int)<=x:=by omega
         have hlt:=K9 h.nd hin
         have q:(L2.Q5 0 (x.toNat+1)).length<=rs.flatten.length:=by
           have sub:∀z∈L2.Q5 0 (x.toNat+1),z∈rs.flatten:=fun z hz=>by
             have hz':=I0.mp hz;exact h.all z hz'.1 (by have:=hx'.2;omega)
           have:∀(l m:List Int),l.Nodup->(∀z∈l,z∈m)->l.length<=m.length:=by
             intro l
             induction l with
             |nil=>intro m _ _;exact ee2 _
             |cons c l ih=>
              intro m nd hs;obtain ⟨n1,n2⟩:=eg7.mp nd;obtain ⟨s,u,rfl⟩:=er4 (hs c ec5)
              have:=ih (s++u) n2 fun z hz=>by
                have hzm:=hs z (ec9 _ hz)
                rcases ed8.mp hzm with g|g
                · exact eg0 _ g
                · rcases ec8.mp g with g|g
                  · subst g;exact absurd hz n1
                  · exact ed4 _ g
              rw[ec2] at this;rw[ec2,ef6,ef6];omega
           exact this _ _ (N0 _) sub
         rw[E2] at q;have:=hx'.1;omega
     rw[E2] at this;exact this
   exact ⟨h.nd,fun x hx=>(hin x hx).1,fun x hx=>by have:=(hin x hx).2;omega⟩
 have hl:rs.flatten.length=p.length:=by
   have l1:=K9 h.nd fun x hx=>by
     obtain ⟨r,hr,hxr⟩:=ef1.mp hx;obtain ⟨y,L,a,b,rfl,_⟩:=h.ring r hr;exact V4 t a x hxr
   have l2:p.length<=rs.flatten.length:=by
     have:=K9 (p:=rs.flatten) (r:=L2.Q5 0 p.length) (N0 _) fun x hx=>by
       have hx':=I0.mp hx;have hm:=h.all x hx'.1 hx'.2;exact ⟨hx'.1,i1.hi x hm⟩
     rw[E2] at this;exact this
   omega
 have:=i1.perm;rw[hl] at this;exact this
end Mth
namespace L2
open PySem PySem.Spec PyProof.Rows
theorem X0:bootBuiltins "sorted"=some (.builtin "sorted"):=by decide+kernel
section
variable {X:Cx}
theorem aw9 {pins:List (Addr×Obj)}{σ:St}{H:Hp}{s:Shared}(I:i9 X pins σ H s){vs:List Value}{out:Array Value}{ms:List Int}(h:IntsAre out.toList ms)(hl:ms.length<=sizeLine):
   i9 X pins σ (i8 H (s.heap.objs.size+1) (.lst (ms.map V.int))) {s with heap:=sortedAll s.heap vs out,toks:=s.toks}:=by
 obtain ⟨e,he⟩:=sortedAll_at s.heap vs out;refine I.laid (t':=s.toks) (fun _ _ q=>sortedAll_old q) (ek2 _) (show A5 X.prog X.w _ _ _ (.lst (ms.map V.int)) from ⟨by rw[eb8];exact hl,out.toList,e,ag8 h,he⟩)
theorem cb3:K0 X (.builtin "sorted") (fun xs H Q=>∃(p:Addr) (ns:List Int),xs=[.ref p]/\i5 X.K H p (ns.map V.int)/\ns.length < 64/\∀(ms:List Int) l,ms.Perm ns->ms.Pairwise (· <= ·)->H l=none->Q (.ref l) (i8 H l (.lst (ms.map V.int)))):=by
 intro pins s σ H xs us Q I r h;obtain ⟨p,ns,rfl,hp,h64,q⟩:=h;obtain ⟨u,rfl,rx⟩:=M9 r;cases rx;obtain ⟨its,rv,pl,_⟩:=I.list hp;have ia:=ac2 rv;have il:=ia.length
 refine sorted_ints pl.isList ia (by omega) fun out ms a1 a2 a3=> ?_
 have hl:ms.length<=sizeLine:=by rw[a2.length_eq];exact eh9 (p9 (by omega))
 exact ⟨.ref (s.heap.objs.size+1),_,aw9 I a1 hl,rfl,q ms _ a2 a3 (I.hok.fresh (ek2 _))⟩
variable {e:Expr} {t:TA} {p pos kpos:Pos}
theorem bl9 (hm:X.mg "sorted"=none)(ha:PA X [e] t)(hg:Gl X "sorted":=by rfl)(he:starEach [e] X.env=(false,eval e X.env)::starEach [] X.env:=by rfl):
   PE X (.Call (.Name "sorted" p) [e] [] pos) (V9 (fun xs H Q=>∃(p:Addr) (ns:List Int),xs=[.ref p]/\i5 X.K H p (ns.map V.int)/\ns.length < 64/\∀(ms:List Int) l,ms.Perm ns->ms.Pairwise (· <= ·)->H l=none->Q (.ref l) (i8 H l (.lst (ms.map V.int)))) t):=
 K7 cb3 hg hm X0 ha (by decide) (by decide) he rfl
theorem bs8 {j:Nat}{kp:Pos}(hm:X.mg "sorted"=none)(ha:PA X [e] t)(hg:Gl X "sorted":=by rfl)
   (he:backTo pos (starEach [e] X.env)=(false,eval e X.env)::backTo pos (starEach [] X.env):=by rfl) (hplain:(backTo pos (starEach [e] X.env)).any (·.1)=false:=by rfl):
   PE X (.Call (.Name "sorted" p) [e] [⟨some "reverse",.Constant (.bool true) j kp,kpos⟩] pos) (V9 (fun xs H Q=>∃(p:Addr) (ns:List Int),xs=[.ref p]/\i5 X.K H p (ns.map V.int)/\ns.length < 64/\∀(ms:List Int) l,ms.Perm ns->ms.Pairwise (· ≥ ·)->H l=none->Q (.ref l) (i8 H l (.lst (ms.map V.int)))) t):=by
 intro pins s σ H Q I h;refine wpAny_Call_Name_kw (Q2 I hg hm X0 ?_ (by decide) (by decide));refine callWith_kw (r6 (ha pos pins s σ H _ I h) fun us s1 ⟨vs,H1,I1,r1,q1⟩=> ?_) he hplain;obtain ⟨a,ns,rfl,hp,h64,q⟩:=q1;obtain ⟨u,rfl,rx⟩:=M9 r1;cases rx;have hk:PK X [⟨some "reverse",.Constant (.bool true) j kp,kpos⟩] (R6 (tC (.bl true)) V2):=dh8 E5 do3
 refine r6 (hk pos pins s1 σ H1 (fun zs H2=>zs=[.bl true]/\H2=H1) I1 ⟨rfl,rfl⟩) fun ws s2 ⟨zs,H2,I2,rz,ez,eH⟩=> ?_
 subst ez eH;obtain ⟨u2,rfl,rx2⟩:=M9 rz;cases (show u2=Value.bool true from rx2);obtain ⟨its,rv,pl,_⟩:=I2.list hp;have ia:=ac2 rv;have il:=ia.length
 refine sorted_ints_rev (b:=true) pl.isList ia (by omega) fun out ms a1 a2 a3=> ?_
 have hl:ms.length<=sizeLine:=by rw[a2.length_eq];exact eh9 (p9 (by omega))
 exact ⟨.ref (s2.heap.objs.size+1),_,aw9 I2 a1 hl,rfl,q ms _ a2 a3 (I2.hok.fresh (ek2 _))⟩
def dz6 (K:PySem.W.Frag)(te:TE)(ts:TO):TE:=fun σ H Q=>te σ H fun x H1=>ts σ H1 fun o H2=>o=some (-1)/\∃a xs,x= .ref a/\i5 K H2 a xs/\∀p,H2 p=none->Q (.ref p) (i8 H2 p (.lst xs.reverse))
theorem cs7 {st:Expr}{te:TE}{ts:TO}{p2:Pos}(he:PE X e te)(hst:PO X (some st) ts):PE X (.Subscript e (.Slice none none (some st) p2) pos) (dz6 X.K te ts):=by
 intro pins s σ H Q I h;refine Subscript_ (r6 (he pins s σ H _ I h) fun v s1 ⟨x,H1,I1,r1,q1⟩=> ?_);refine wpAny_Slice ?_;rw[evalPart_none];refine wpAny_pure (wpAny_pure ?_)
 refine r6 (hst pins s1 σ H1 _ I1 q1) fun vk s3 ⟨k,H3,I3,pk,ek,a,xs,ex,hx,q⟩=> ?_
 subst ek ex;cases r1
 have I4:i9 X pins σ H3 {s3 with heap:=s3.heap.push {cls:= .type "slice",data:= .fields #[.none,.none,vk]}}:=I3.kept (t':=s3.toks) fun b ob q=>Heap.get?_push_of_some _ q
 obtain ⟨its,r,ht,hz⟩:=I4.list hx;have hlen:=r.length;show wpAny (model X.prog X.w) X.A (subscriptTail e (.Slice none none (some st) p2) (.ref a) (.ref s3.heap.objs.size)) (EP X pins σ Q) X.xe {s3 with heap:=s3.heap.push {cls:= .type "slice",data:= .fields #[.none,.none,vk]}};refine tail_any (ops:=[.ref a,.ref s3.heap.objs.size]) (T:="list") ht.isList.typeIs slot_list_getitem.lookup ?_ rfl;refine wpAny_getItem_list_slice ht.isList (Heap.IsSliceOf.new ..) .none .none pk (by decide) ?_ (by rw[ec7]<;>omega);rw[PySem.W.krv_pick]
 have I5:=I4.laid (t':=s3.toks) (o:= .lst xs.reverse) (h':=(s3.heap.push {cls:= .type "slice",data:= .fields #[.none,.none,vk]}).push {cls:= .type "list",data:= .seq its.reverse.toArray}) (a:=(s3.heap.push {cls:= .type "slice",data:= .fields #[.none,.none,vk]}).objs.size)
   (fun b ob q=>Heap.get?_push_of_some _ q) (ec6 _) ⟨by rw[eq9];exact hz,its.reverse,0,r.reverse,Heap.get?_push_size _ rfl⟩
 exact ⟨.ref _,_,I5,rfl,q _ (I4.hok.fresh (ec6 _))⟩
end
end L2
namespace Mth
theorem ax0:∀{a b:List Int},a.Perm b->a.Pairwise (· ≥ ·)->b.Pairwise (· ≥ ·)->a=b
 |[],b,h,_,_=>by rw[List.nil_perm.mp h]
 |x::a,[],h,_,_=>by exact absurd h.length_eq (by simp)
 |x::a,y::b,h,ha,hb=>by
  obtain ⟨a1,a2⟩:=em0.mp ha;obtain ⟨b1,b2⟩:=em0.mp hb
  have hxy:x=y:=by
    have h1:x∈y::b:=h.mem_iff.mp ec5;have h2:y∈x::a:=h.mem_iff.mpr ec5
    have l1:y≥x:=by
      rcases ec8.mp h1 with e|e
      · exact Int.le_of_eq e
      · exact b1 x e
    have l2:x≥y:=by
      rcases ec8.mp h2 with e|e
      · exact Int.le_of_eq e
      · exact a1 y e
    omega
  subst hxy;rw[ax0 ((List.perm_cons x).mp h) a2 b2]
structure P7 (ls:List Nat)(h:Nat):Prop where
 pos:0 < h
 up:∀l∈ls,l∣h
 least:∀m,(∀l∈ls,l∣m)->h∣m
theorem P7.perm {ls ms:List Nat}{a:Nat}(x:P7 ls a)(h:ms.Perm ls):P7 ms a:=⟨x.pos,fun l hl=>x.up l (h.mem_iff.mp hl),fun m hm=>x.least m fun l hl=>hm l (h.mem_iff.mpr hl)⟩
theorem P7.nil:P7 [] 1:=⟨by decide,fun l hl=>by simp at hl,fun m _=>Nat.one_dvd m⟩
theorem P7.snoc {ls:List Nat}{h l:Nat}(x:P7 ls h)(hl:0 < l):P7 (ls++[l]) (es5 h l):=by
 refine ⟨Nat.lcm_pos x.pos hl,fun m hm=> ?_,fun m hm=> ?_⟩
 · rcases ed8.mp hm with z|z
   · exact Nat.dvd_trans (x.up m z) (Nat.dvd_lcm_left h l)
   · have:m=l:=by simpa using z
     rw[this];exact Nat.dvd_lcm_right h l
 · exact Nat.lcm_dvd (x.least m fun k hk=>hm k (eg0 _ hk)) (hm l (ed4 _ (by simp)))
theorem di7 (a b:Nat):a/ee4 a b*b=es5 a b:=by
 unfold es5;rw[Nat.div_mul_right_comm (eo0 a b)]
end Mth
namespace L2
open PySem PySem.Spec PyProof.Rows
def as3:List Expr->Option (List Int)
 |[]=>some []
 | .Constant (.int i) _ _::es=>(as3 es).map (i:: ·)
 |_::_=>none
def du6 (ns:List Int):TA:=fun _ H Q=>Q (ns.map V.int) H
def du7 (ns:List Int):TE:=fun _ H Q=>ns.length<=sizeLine/\∀p,H p=none->Q (.ref p) (i8 H p (.lst (ns.map V.int)))
theorem bs9 (i:Int)(j:Nat)(p:Pos)(es:List Expr)(env:Env):starEach (.Constant (.int i) j p::es) env=(false,eval (.Constant (.int i) j p) env)::starEach es env:=rfl
theorem bt0 {X:Cx}:∀(es:List Expr) (ns:List Int),as3 es=some ns->PA X es (du6 ns)
 |[],ns,h=>by
  have:ns=[]:=(Option.some.inj h).symm;subst this
  exact fun pos pins s σ H Q I h=>c6 pos pins s σ H Q I h
 |e::es,ns,h=>by
  unfold as3 at h
  split at h
  · rename_i h0;cases h0
  · rename_i i j p es' heq;cases heq
    cases ho:as3 es with
    |none=>rw[ho] at h;cases h
    |some ms=>
     rw[ho] at h;cases h
     exact fun pos pins s σ H Q I h=>(c5 (te:=tC (.int i)) j4 (bt0 es ms ho) (bs9 i j p es X.env)) pos pins s σ H Q I h
  · cases h
theorem ay6 {X:Cx}{pos:Pos}{es:List Expr}(ns:List Int)(h:as3 es=some ns):PE X (.List es pos) (du7 ns):=fun pins s σ H Q I h'=>A6 (bt0 es ns h) pins s σ H Q I (by
 show (ns.map V.int).length<=sizeLine/\_
 rw[eb8];exact h')
end L2
namespace L2
open PySem PySem.Spec PyProof.Rows
section
variable {X:Cx}
theorem bt1 {P:Program}{w:World}{k:x5}{u:Value}(h:(A9 P w).is k u=true):w4 (kV k) u:=by
 cases k with
 |inl i=>
  cases u with
  |int j t=>
   have:i=j:=by
     have h2:=KeyKind.is_eq_decide (knd:=A9 P w) (aw3 P w j t) (Sum.inl i);rw[h] at h2;have:=of_decide_eq_true h2.symm;exact Sum.inl.inj this
   subst this;exact ⟨t,rfl⟩
  |_=>cases h
 |inr x=>
  cases u with
  |str y t=>
   have:x=y:=by
     have h2:=KeyKind.is_eq_decide (knd:=A9 P w) (Z7 P w y t) (Sum.inr x);rw[h] at h2;have:=of_decide_eq_true h2.symm;exact Sum.inr.inj this
   subst this;exact ⟨t,rfl⟩
  |_=>cases h
theorem i9.freeze {pins:List (Addr×Obj)}{σ:St}{H:Hp}{s:Shared}{a:Addr}{kvs:List (x5×V)}{o:Obj}(I:i9 X pins σ H s)(e:H a=some (.dK kvs))(ho:s.heap.get? a=some o):i9 X pins σ (i8 H a (.frz o (.dK kvs))) s:=by
 have ok:A5 X.prog X.w H s.heap a (.dK kvs):=I.hok a _ e;exact au5 (h':=s.heap) (t':=s.toks) I (by rw[e];exact True.intro) ⟨rfl,fun b _=>rfl⟩ ⟨o,ho⟩ ⟨ho,ok⟩
def Itd (d:Addr)(o:Obj)(kvs:List (x5×V)):It:=
 ⟨fun i H=>H d=some (.frz o (.dK kvs))/\i < kvs.length,fun i H x H'=>H'=H/\∃k v,kvs[i]? =some (k,v)/\x=kV k,fun i H=>H d=some (.frz o (.dK kvs))/\kvs.length<=i⟩
theorem df6 {P:Program}{w:World}{H:Hp}{h:Heap}{d:Addr}{o:Obj}{kvs:List (x5×V)}(x:A5 P w H h d (.frz o (.dK kvs))){es:Array DictEntry}{ep:Nat}(hd:o.data= .dict es ep):∃vs,KV kvs vs/\h.DictAt (A9 P w) d vs ep:=by
 obtain ⟨ho,_,_,vs,rel,o',es',ep',ho',hc,hd',r⟩:=x;rw[ho] at ho';cases ho';rw[hd] at hd';cases hd';exact ⟨vs,rel,o,es,ho,hc,hd,r⟩
theorem bd3 {α β:Type}{R:α->β->Prop}{xs:List α}{ys:List β}(h:Paired R xs ys):∀{i:Nat} {x:α},xs[i]? =some x->∃y,ys[i]? =some y/\R x y:=by
 induction h with
 |nil=>intro i x e;simp at e
 |cons r _ ih=>
  intro i x e
  cases i with
  |zero=>rw[et5] at e;cases e;exact ⟨_,rfl,r⟩
  |succ i=>rw[ep1] at e;exact ih e
theorem cs9 {P:Program}{w:World}{K:PySem.W.Frag}{tg:Expr}(d it:Addr)(o:Obj)(kvs:List (x5×V))(es:Array DictEntry)(ep:Nat)(hdat:o.data= .dict es ep):al4 P w K tg (Itd d o kvs) [it] it (fun i h=>h.IsKeyIter it d i kvs.length ep) where
 mem:=by simp
 obj:=fun i h st b hb=>by
   have e:b=it:=by simpa using hb
   subst e;obtain ⟨o,e,c,d⟩:=st;exact ⟨o,e,fun v z=>by rw[d] at z;cases z⟩
 keep:=fun i h h' st k=>by
   obtain ⟨o,e,r⟩:=st;exact ⟨o,k it (by simp) o e,r⟩
 item:=by
   intro X hP hw hK hc i pins s σ H E I hf st hg;subst hP hw hK;obtain ⟨hH,hi⟩:=hg;obtain ⟨vs,rel,hat⟩:=df6 (I.hok d _ hH) hdat;have hl:kvs.length=vs.length:=rel.length;obtain ⟨f0,f1,f2,f3,f4,f5⟩:=hf it (by simp);have e1:kvs[i]? =some (kvs[i].1,kvs[i].2):=eb9 hi;generalize kvs[i].1=k at e1;generalize kvs[i].2=v at e1;obtain ⟨⟨k',u⟩,e2,e3,_⟩:=bd3 rel e1;have e3:k=k':=e3;subst e3;rw[hl] at st
   refine wpAny_pyNext_dict_item st hat e2 fun key h' hk st' sb=> ?_
   have I1:i9 X pins σ H {s with heap:=h'}:=I.turned (t':=s.toks) (fun b o hb e=>(sb.2 b hb).trans e) f0 f1 f3 f4 f5;obtain ⟨o,e,c,dd⟩:=id st';exact ⟨key,rfl,bb2 (s:={s with heap:=h'}) e c dd (by decide) ⟨kV k,H,I1,bt1 hk,⟨rfl,k,v,e1,rfl⟩,by rw[hl];exact st',fun b hb=>(hf b hb).1⟩⟩
 done:=by
   intro X hP hw hK hc i pins s σ H E I hf st hg;subst hP hw hK;obtain ⟨hH,hi⟩:=hg;obtain ⟨vs,rel,hat⟩:=df6 (I.hok d _ hH) hdat;have hl:kvs.length=vs.length:=rel.length;obtain ⟨f0,f1,f2,f3,f4,f5⟩:=hf it (by simp);rw[hl] at st
   exact wpAny_pyNext_dict_end (I.ok.hd hc) st hat (ed5 (by omega)) fun h' eb=>⟨rfl,I.turned (t':=s.toks) (fun b o hb e=>eb b o hb e) f0 f1 f3 f4 f5⟩
 self:=fun _ _ _ _ _ st h=>wpAny_pyIter_keyiter st h
def du8 (td:TE):TI:=fun σ H R=>td σ H fun x H1=>∃d kvs,x= .ref d/\H1 d=some (.dK kvs)/\∀o,R (Itd d o kvs) (i8 H1 d (.frz o (.dK kvs)))
theorem di8 {tg l:Expr}{tl:TE}(hl:PE X l tl):PI X tg l (du8 tl):=by
 intro pins s σ H R I h
 refine r6 (hl pins s σ H _ I h) fun v s1 ⟨x,H1,I1,r1,q1⟩=> ?_
 obtain ⟨d,kvs,e,hH,q⟩:=q1;subst e;cases r1;obtain ⟨_,hsm,vs,rel,o,es,ep,ho,hc,hdat,rr⟩:=(show A5 X.prog X.w H1 s1.heap d (.dK kvs) from I1.hok d _ hH);have hat:s1.heap.DictAt (A9 X.prog X.w) d vs ep:=⟨o,es,ho,hc,hdat,rr⟩;have I2:=I1.freeze hH ho;refine wpAny_pyIter_dict hsm hat ?_;have hlen:kvs.length=vs.length:=rel.length;refine ⟨s1.heap.objs.size,[s1.heap.objs.size],_,_,_,rfl,I2.kept (t':=s1.toks) fun b o e=>Heap.get?_push_of_some _ e,cs9 d _ o kvs es ep hdat,⟨_,Heap.get?_push_size _ rfl,rfl,by rw[hlen];rfl⟩,fun b hb=> ?_,q o⟩
 have e:b=s1.heap.objs.size:=by simpa using hb
 subst e;exact I2.fpOk (ec6 _) (I2.hok.fresh (ec6 _))
theorem db0 {d:Addr}{o:Obj}{kvs:List (x5×V)}{g:TG}{tb:TS}{D:T9}{σ:St}{H:Hp}(Pv:Nat->St->Hp->Prop)(h0:Pv 0 σ H)(hl:∀i σ H,i<=kvs.length->Pv i σ H->H d=some (.frz o (.dK kvs)))
   (hs:∀i k v σ H,kvs[i]? =some (k,v)->Pv i σ H->g (kV k) σ H fun σ2 H2=>tb {D with nx:=Pv (i+1),ct:=Pv (i+1),bk:=D.nx} σ2 H2) (hd:∀σ H,Pv kvs.length σ H->D.nx σ H):
   ∃W:Nat->Nat->St->Hp->Prop,(∃m,W 0 m σ H)/\∀i m σ H,W i m σ H->
    ((Itd d o kvs).stop i H/\D.nx σ H)\/((Itd d o kvs).go i H/\∃N:St->Hp->Prop,(∀σ' H',N σ' H'->∃m',m' < m/\W (i+1) m' σ' H')/\∀x H',(Itd d o kvs).yld i H x H'->g x σ H' fun σ2 H2=>tb {D with nx:=N,ct:=N,bk:=D.nx} σ2 H2):=by
 refine ⟨fun i m σ H=>m=kvs.length - i/\i<=kvs.length/\Pv i σ H,⟨kvs.length,by simp,ee2 _,h0⟩,?_⟩;rintro i m σ H ⟨rfl,hi,p⟩;have q:=hl i σ H hi p
 by_cases hlt:i < kvs.length
 · refine .inr ⟨⟨q,hlt⟩,Pv (i+1),fun σ' H' p'=>⟨kvs.length - (i+1),by omega,rfl,hlt,p'⟩,fun x H' y=> ?_⟩;obtain ⟨e,k,v,y1,y2⟩:=y;subst e y2;exact hs i k v σ _ y1 p
 · have e:i=kvs.length:=by omega
   subst e;exact .inl ⟨⟨q,ec6 _⟩,hd σ H p⟩
theorem ah9 {prog:Program}{w:World}{κ:Type}[DecidableEq κ](knd:KeyKind prog w κ){k:κ}{key:Value}(d:Addr)(hkey:knd.is k key=true)(hd:(d==sysModules)=false)(dflt:Value):
   MeetsIn prog w (Builtin.«dict.setdefault» ⟨[.ref d,key,dflt],[]⟩) (fun _ R s=>∃kvs,s.heap.DictOf knd d kvs/\kvs.length<=sizeLine/\
     (∀v,valueAt kvs k=some v->R (.ok (.ret v)) {s with toks:=s.toks+1})/\
     (valueAt kvs k=none->∀h',h'.DictOf knd d (kvs++[(k,dflt)])->Heap.SameBut d s.heap h'->R (.ok (.ret dflt)) {s with heap:=h',toks:=s.toks+1})):=
 .of_wp fun A R s ⟨kvs,hm,hz,h1,h2⟩=>by
   unfold Builtin.«dict.setdefault»;refine wpAny_bind ?_;unfold Builtin.Dict.keyAndDefault;refine wpAny_bind (wpAny_notOrdered_dict hm.typeIs ?_);show wpAny _ _ (pure (d,key,some dflt)) _ _ s;refine wpAny_pure ?_;show wpAny _ _ (if (d==sysModules)=true then _ else (dictSetDefault d key dflt >>=_)) _ _ s;rw[if_neg (by rw[hd];exact ed9)];obtain ⟨o,es,ep,ho,hc,hdat,hk,hp,hn⟩:=id hm
   have hes:es.size<=sizeLine:=by
     have e1:=hp.length
     have e2:es.toList.length=es.size:=by simp
     omega
   have hf:=hm.mapOf;refine wpAny_bind ?_;unfold dictSetDefault
   try with_reducible refine wpAny_holding ?_
   refine wpAny_bind (knd.pyHash hkey ?_);refine wpAny_bind (wpAny_dictFind_of (s:={s with toks:=s.toks+1}) hkey ho hdat hk ?_)
   have hidx:(es.findIdx? fun e=>knd.is k e.key)=kvs.findIdx? fun kv=>decide (kv.1=k):=by
     rw[<-hp.findIdx k];obtain ⟨l⟩:=es;simp
   have hfb:findBy knd.is es k=valueAt kvs k:=by
     rw[<-hp.find k];obtain ⟨l⟩:=es;simp [findBy]
   rw[findBy_of_findIdx?] at hfb
   cases hi:es.findIdx? fun e=>knd.is k e.key with
   |some i=>
    refine wpAny_bind (wpAny_dictEntries (s:={s with toks:=s.toks+1}) ho hdat ?_)
    cases he:es[i]? with
    |none=>
     exfalso;have:=Array.findIdx?_eq_some_iff_findIdx_eq.mp hi;have hlt:i < es.size:=this.1;rw[eo2 hlt] at he
     exact nomatch he
    |some e=>
     refine wpAny_bind (wpAny_rule (wpAny_pure (wpAny_pure ⟨e.val,rfl,h1 e.val ?_⟩)));rw[hi] at hfb;rw[<-hfb];show Option.map _ es[i]? =_;rw[he];rfl
   |none=>
    have hnot:k∉kvs.map (·.1):=not_mem_of_findIdx_none (hidx▸hi)
    have hnone:valueAt kvs k=none:=by rw[hi] at hfb;exact hfb.symm
    refine wpAny_bind (wpAny_rule (wpAny_bind (wpAny_updateDictKeys (hz:=hes) (s:={s with toks:=s.toks+1}) ho hdat (wpAny_pure (wpAny_pure ⟨dflt,rfl,h2 hnone _ ⟨_,_,ep+1,Heap.get?_update_self _ ho (Obj.isFreed_of_dict (Obj.data_mapDictKeys hdat _)),
      hc.mapDictKeys _,Obj.data_mapDictKeys hdat _,hk.push hkey _,?_,?_⟩ (Heap.SameBut.update ..)⟩)))))
    · have:=hp.append hkey (knd.hash k) dflt;obtain ⟨l⟩:=es
      simpa using this
    · rw[ec3,eg5];refine ⟨hn,by simp,?_⟩;intro a ha b hb;simp only[eg2,eo9,eh0] at hb;subst hb
      exact fun e=>hnot (e▸ha)
def cf6:V->List V->Hp->VK->Prop:=fun x vs H Q=>∃(d:Addr) (kvs:List (x5×V)) (k:x5) (y:V),x= .ref d/\vs=[kV k,y]/\H d=some (.dK kvs)/\kvs.length < sizeLine/\
 (∀v,B8 kvs k=some v->Q v H)/\(B8 kvs k=none->Q y (i8 H d (.dK (kvs++[(k,y)]))))
theorem ct0:MtM X "dict.setdefault" cf6:=by
 intro pins s σ H x vs v us Q I rx rv h;obtain ⟨d,kvs,k,y,rfl,rfl,hH,hlen,q1,q2⟩:=h;cases rx
 cases rv with
 |cons rk rr=>
  cases rr with
  |cons ry rn=>
   cases rn;obtain ⟨z,hd,ws,rel,dd⟩:=df5 I.hok hH
   refine call_meetsIn PySem.F.slot_dict_setdefault dd.typeIs PySem.F.entry_dict_setdefault (PySem.F.args_dict_setdefault_3 _ _ _) (ah9 (A9 X.prog X.w) d (ag7 rk) hd _)
     ⟨ws,dd,by rw[<-rel.length];exact z,fun u hu=> ?_,fun hn h' dd' hs=> ?_⟩
   · have:=rel.val k;rw[hu] at this
     cases hv:B8 kvs k with
     |none=>rw[hv] at this;cases this
     |some v=>
      rw[hv] at this;exact ⟨v,H,I.tok _,this,q1 v hv⟩
   · have hvn:B8 kvs k=none:=by
       have:=rel.val k;rw[hn] at this
       cases hv:B8 kvs k with
       |none=>rfl
       |some v=>rw[hv] at this;cases this
     have he:∃q,h'.get? d=some q:=let ⟨q,_,_,hq,_⟩:=dd';⟨q,hq⟩;have rel':=rel.put k ry
     have hany:¬(ws.any fun kv=>decide (kv.1=k))=true:=by
       rw[List.any_eq_true];rintro ⟨kv,hkv,hek⟩;unfold valueAt at hn
       cases hf:ws.find? (fun kv=>decide (kv.1=k)) with
       |none=>exact List.find?_eq_none.mp hf kv hkv hek
       |some y=>rw[hf] at hn;cases hn
     rw[al8 y hvn,stored,if_neg hany] at rel';exact ⟨y,_,au5 I (by rw[hH];exact True.intro) hs he (cq1 (by rw[ec2];exact hlen) hd rel' dd'),ry,q2 hvn⟩
theorem ct1 {o e f:Expr}{to:TE}{t:TA}{apos pos:Pos}(ho:PE X o to)(ha:PA X [e,f] t)
   (hbase:attributeBase o "setdefault" X.env (eval o X.env)=eval o X.env:=by rfl)
   (hfew:((backTo pos (starEach [e,f] X.env)).all (fun x=> !x.1)&&(backToKw pos (keywordEach [] X.env)).all (fun x=>x.1.isSome)
     &&decide ([e,f].length+([]:List Keyword).length+(if ([]:List Keyword).isEmpty then 0 else 1) < 30))=true:=by rfl)
   (hline:(apos.endLine==pos.line)=true:=by rfl) (hs:starEach [e,f] X.env=(false,eval e X.env)::starEach [f] X.env:=by rfl) (hplain:(backTo pos (starEach [f] X.env)).any (·.1)=false:=by rfl):
   PE X (.Call (.Attribute o "setdefault" apos) [e,f] [] pos) (tBM X.K "dict" cf6 to t):=
 W8 PySem.F.plainAttrs_dict PySem.F.slot_dict_setdefault PySem.F.type_dict_setdefault ct0 ho ha hbase hfew hline hs hplain
def bt2:V->List V->Hp->VK->Prop:=fun x vs H Q=>∃(l:Addr) (ns:List Int) (v:Int),x= .ref l/\vs=[.int v]/\H l=some (.lst (ns.map V.int))/\Q (.int ((ns.countP fun i=>decide (i=v):Nat):Int)) H
theorem db1:MtM X "list.count" bt2:=by
 intro pins s σ H x vs v us Q I rx rv h;obtain ⟨l,ns,k,rfl,rfl,hH,q⟩:=h;cases rx;obtain ⟨u,rfl,t,rfl⟩:=rv.one;obtain ⟨z,its,n,r,hl,e⟩:=I.lstM hH
 refine call_meets F.slot_list_count ⟨_,e,rfl⟩ F.entry_list_count (F.args_list_count_2 _ _)
   (SeqAt.list_countAt l its.toArray n none #[] (.int k t) (eqU (.int k))) ⟨e,fun y hy=> ?_,?_⟩
 · exact al7 (x:= .int k) ⟨t,rfl⟩ rfl r (by rw[ei6];intro y hy;obtain ⟨i,_,rfl⟩:=ee3.mp hy;rfl) y (by simpa using hy)
 · have cnt:∀(ms:List Int) (us:List Value),o8 (ms.map V.int) us->us.countP (eqU (.int k))=ms.countP fun i=>decide (i=k):=by
     intro ms
     induction ms with
     |nil=>intro us h;rw[eo9] at h;cases h;rfl
     |cons m ms ih=>
      intro us h;rw[eg2] at h
      cases h with
      |cons h1 h2=>
       obtain ⟨t',rfl⟩:=h1;rw[eo1,eo1,ih _ h2,bb7 (y:= .int m) ⟨t',rfl⟩ rfl]
       congr 1
   rw[show its.toArray.toList.countP (eqU (.int k))=ns.countP fun i=>decide (i=k) from cnt ns its r];exact ⟨.int _,H,I.tok _,⟨_,rfl⟩,q⟩
theorem db2 {o e:Expr}{to:TE}{t:TA}{apos pos:Pos}(ho:PE X o to)(ha:PA X [e] t)
   (hbase:attributeBase o "count" X.env (eval o X.env)=eval o X.env:=by rfl)
   (hfew:((backTo pos (starEach [e] X.env)).all (fun x=> !x.1)&&(backToKw pos (keywordEach [] X.env)).all (fun x=>x.1.isSome)
     &&decide ([e].length+([]:List Keyword).length+(if ([]:List Keyword).isEmpty then 0 else 1) < 30))=true:=by rfl)
   (hline:(apos.endLine==pos.line)=true:=by rfl) (hs:starEach [e] X.env=(false,eval e X.env)::starEach [] X.env:=by rfl) (hplain:(backTo pos (starEach [] X.env)).any (·.1)=false:=by rfl):
   PE X (.Call (.Attribute o "count" apos) [e] [] pos) (tBM X.K "list" bt2 to t):=
 W8 PySem.F.plainAttrs_list PySem.F.slot_list_count PySem.F.type_list_count db1 ho ha hbase hfew hline hs hplain
theorem bm0:bootBuiltins "int"=some (.type "int"):=by decide+kernel
theorem ct2:K0 X (.type "int") (fun xs H Q=>∃b,xs=[.bl b]/\Q (.int (if b then 1 else 0)) H):=by
 intro pins s σ H xs us Q I r h;obtain ⟨b,rfl,q⟩:=h;obtain ⟨u,rfl,rx⟩:=M9 r;cases rx;exact call_int_bool ⟨.int _,H,I.tok _,⟨_,rfl⟩,q⟩
theorem aj8 {e:Expr}{t:TA}{p pos:Pos}(hm:X.mg "int"=none)(ha:PA X [e] t)(hg:Gl X "int":=by rfl)(he:starEach [e] X.env=(false,eval e X.env)::starEach [] X.env:=by rfl):
   PE X (.Call (.Name "int" p) [e] [] pos) (V9 (fun xs H Q=>∃b,xs=[.bl b]/\Q (.int (if b then 1 else 0)) H) t):=
 W0 ct2 hg hm bm0 ha (by decide) (by decide) he rfl
end
theorem di9 (xs:List V)(k j:Nat)(h:k<=xs.length):ad7 xs (some (k:Int)) (some (j:Int))=(xs.drop k).take (min j xs.length - k):=by
 unfold ad7;rw[HT.ea7,HT.ea7,Nat.min_eq_left h]
end L2
namespace Mth
def L8 (rs:List (List Int))(l:Nat):Nat:=rs.countP fun r=>decide (r.length=l)
theorem bd4 {g:Int->Nat}{l:Nat}:∀{rs:List (List Int)},(∀r∈rs,∀x∈r,g x=r.length)->(rs.flatten.countP fun x=>decide (g x=l))=l*L8 rs l
 |[],_=>by simp [L8]
 |r::rs,h=>by
  have ih:=bd4 (l:=l) (rs:=rs) fun q hq=>h q (ec9 _ hq)
  rw[ee8,List.countP_append,ih];unfold L8;rw[eo1];have hr:=h r ec5
  by_cases e:r.length=l
  · have:(r.countP fun x=>decide (g x=l))=r.length:=List.countP_eq_length.mpr fun x hx=>by rw[hr x hx];exact decide_eq_true e
    rw[this,e];simp only[decide_true,if_true];rw[er7,Nat.mul_one,ek3]
  · have:(r.countP fun x=>decide (g x=l))=0:=List.countP_eq_zero.mpr fun x hx=>by rw[hr x hx];simpa using e
    rw[this];simp [e]
theorem aj9 {p:List Int}(t:A1 p){rs:List (List Int)}(up:C4 p p.length rs):∀r∈rs,∀x∈r,W9 p x=r.length:=by
 intro r hr x hx;obtain ⟨y,L,hy,pr,er,_⟩:=up.ring r hr;subst er;obtain ⟨j,hj,rfl⟩:=C3.mp hx;rw[A2];exact V5 (pr.shift t hy j)
theorem bg7 {rs:List (List Int)}{l:Nat}(h:L8 rs l≠0):∃r∈rs,r.length=l:=by
 unfold L8 at h;obtain ⟨r,hr,e⟩:=List.countP_pos_iff.mp (Nat.pos_of_ne_zero h);exact ⟨r,hr,of_decide_eq_true e⟩
end Mth
namespace Mth
structure P1 (l m d:Nat):Prop where
 parts:d∣m
 rest:ee4 l (m/d)=1
 least:∀e,e∣m->ee4 l (m/e)=1->d∣e
theorem P1.uniq {l m a b:Nat}(x:P1 l m a)(y:P1 l m b):a=b:=et0 (x.least b y.parts y.rest) (y.least a x.parts x.rest)
theorem P1.pos {l m d:Nat}(x:P1 l m d)(hm:0 < m):0 < d:=by
 rcases ej8 d with z|z
 · have:=x.parts;rw[z] at this;have:=Nat.zero_dvd.mp this;omega
 · exact z
structure Z1 (l m d:Nat):Prop where
 pos:0 < d
 parts:d∣m
 least:∀e,e∣m->ee4 l (m/e)=1->d∣e
theorem Z1.start (l m:Nat):Z1 l m 1:=⟨by decide,Nat.one_dvd m,fun e _ _=>Nat.one_dvd e⟩
theorem Z1.step {l m d:Nat}(hm:0 < m)(u:Z1 l m d):Z1 l m (d*ee4 l (m/d)):=by
 obtain ⟨k,rfl⟩:=u.parts;have dp:=u.pos;rw[ek4 k dp]
 have kp:0 < k:=Nat.pos_of_mul_pos_left hm|>fun h=>by
   rcases ej8 k with z|z
   · rw[z,et4] at hm;omega
   · exact z
 refine ⟨er8 dp (eo7 _ kp),eq4 d (ek1 l k),fun e he hr=> ?_⟩;obtain ⟨f,rfl⟩:=u.least e he hr;have hfk:f∣k:=en2 dp he;obtain ⟨g,rfl⟩:=hfk
 have fp:0 < f:=by
   rcases ej8 f with z|z
   · rw[z,et6] at kp;omega
   · exact z
 have e1:d*(f*g)/(d*f)=g:=by
   rw[<-eq1,ek4 g (er8 dp fp)]
 rw[e1] at hr;refine eq4 d ?_
 have c:er9 (ee4 l (f*g)) g:=by
   have:er9 l g:=hr;exact er9.coprime_dvd_left (eo0 l (f*g)) this
 exact c.dvd_of_dvd_mul_right (ek1 l (f*g))
theorem Z1.done {l m d:Nat}(u:Z1 l m d)(h:ee4 l (m/d)=1):P1 l m d:=⟨u.parts,h,u.least⟩
theorem Z1.more {l m d:Nat}(hm:0 < m)(u:Z1 l m d)(h:ee4 l (m/d)≠1):d < d*ee4 l (m/d)/\d*ee4 l (m/d)<=m:=by
 have kp:0 < m/d:=Nat.div_pos (ej1 hm u.parts) u.pos;have gp:0 < ee4 l (m/d):=eo7 _ kp;have dp:=u.pos;refine ⟨?_,ej1 hm (u.step hm).parts⟩
 have:2<=ee4 l (m/d):=by omega
 calc d < d*2:=by omega
   _<=d*ee4 l (m/d):=Nat.mul_le_mul_left d this
def L9 (d l k lane step:Nat):Nat:=lane+d*((step*k)%l)
theorem bt3 {d l x lane:Nat}(hl:lane < d)(h:0 < l):(lane+d*x)%(d*l)=lane+d*(x%l):=by
 have e:lane+d*x=(lane+d*(x%l))+(d*l)*(x/l):=by
   have:=Nat.mod_add_div x l
   calc lane+d*x=lane+d*(x%l+l*(x/l)):=by rw[this]
     _=(lane+d*(x%l))+(d*l)*(x/l):=by rw[er7,<-eq1,Nat.add_assoc]
 rw[e,eo3];refine ef9 ?_;have hx:x%l+1<=l:=ei2 _ h
 calc lane+d*(x%l) < d+d*(x%l):=by omega
   _=d*(x%l+1):=by rw[er7,Nat.mul_one,ek3]
   _<=d*l:=Nat.mul_le_mul_left d hx
theorem cf7 {d l k lane step:Nat}(hl:lane < d)(h:0 < l):(lane+step*(d*k))%(d*l)=L9 d l k lane step:=by
 have e:step*(d*k)=d*(step*k):=by rw[<-eq1,ej0 step d,eq1]
 rw[e,bt3 hl h];rfl
theorem av2 {d l k lane step:Nat}(hl:lane < d)(h:0 < l):L9 d l k lane step < d*l:=by
 rw[<-cf7 (k:=k) hl h];exact ei2 _ (er8 (by omega) h)
theorem db3 {d l k a b x y:Nat}(ha:a < d)(hb:b < d)(hx:x < l)(hy:y < l)(c:ee4 l k=1)(h:L9 d l k a x=L9 d l k b y):a=b/\x=y:=by
 unfold L9 at h
 have dp:0 < d:=by omega
 have h1:a=b:=by
   have e1:(a+d*((x*k)%l))%d=a:=by rw[eo3];exact ef9 ha
   have e2:(b+d*((y*k)%l))%d=b:=by rw[eo3];exact ef9 hb
   rw[<-e1,<-e2,h]
 subst h1;have h2:(x*k)%l=(y*k)%l:=Nat.eq_of_mul_eq_mul_left dp (by omega);refine ⟨rfl,?_⟩
 have key:∀u v,u<=v->v < l->(u*k)%l=(v*k)%l->u=v:=fun u v huv hv e=>by
   have d1:l∣v*k - u*k:=em6 (Nat.sub_mod_eq_zero_of_mod_eq e.symm);rw[<-Nat.sub_mul] at d1;have d2:l∣v - u:=er9.dvd_of_dvd_mul_right c d1
   rcases ej8 (v - u) with z|z
   · omega
   · have:=ej1 z d2;omega
 rcases Nat.le_total x y with z|z
 · exact key x y z hy h2
 · exact (key y x z hx h2.symm).symm
theorem ct3 {d l k lane step:Nat}(hl:lane < d)(h:0 < l):(L9 d l k lane step+d*k)%(d*l)=L9 d l k lane ((step+1)%l):=by
 have e1:L9 d l k lane step+d*k=lane+d*((step*k)%l+k):=by
   unfold L9;rw[er7,Nat.add_assoc]
 rw[e1,bt3 hl h];unfold L9
 congr 2
 rw[Nat.mod_add_mod,<-ej7,Nat.mul_mod ((step+1)%l),Nat.mod_mod,<-Nat.mul_mod]
end Mth
namespace Mth
theorem cb4 {r:List Int}(h1:∀x,In r x->In r (nx r x))(h2:∀x,In r x->∃L,0 < L/\it r L x=x):A1 r:=by
 refine as0 (fun x a b=>h1 x ⟨a,b⟩) fun x y x0 x1 y0 y1 e=> ?_
 obtain ⟨L,L0,hL⟩:=h2 x ⟨x0,x1⟩;obtain ⟨M,M0,hM⟩:=h2 y ⟨y0,y1⟩;have a1:=ar9 hL M;have a2:=ar9 hM L;rw[ej0] at a2;have hp:0 < L*M:=er8 L0 M0;obtain ⟨N,hN⟩:∃N,L*M=N+1:=⟨L*M - 1,by omega⟩;rw[hN,di4] at a1 a2;rw[<-a1,<-a2,e]
structure N8 (r J:List Int):Prop where
 ne:J≠[]
 nd:J.Nodup
 lo:∀x∈J,0<=x
 on:∀j,j < J.length->A4 r (J.getD j 0)=some (J.getD ((j+1)%J.length) 0)
theorem N8.in_ {r J:List Int}(h:N8 r J){j:Nat}(hj:j < J.length):In r (J.getD j 0):=by
 have:=h.on j hj;unfold A4 at this;have h1:=(ec0.mp this).1;have h0:=h.lo (J.getD j 0) (by rw[B0 hj];exact ee5 hj);exact ⟨h0,by omega⟩
theorem N8.nx {r J:List Int}(h:N8 r J){j:Nat}(hj:j < J.length):nx r (J.getD j 0)=J.getD ((j+1)%J.length) 0:=by
 have e:=bc8 (h.in_ hj);rw[h.on j hj] at e;exact (Option.some.inj e).symm
theorem N8.it {r J:List Int}(h:N8 r J){j:Nat}(hj:j < J.length):∀i,it r i (J.getD j 0)=J.getD ((j+i)%J.length) 0
 |0=>by rw[Nat.add_zero,ef9 hj];rfl
 |i+1=>by
  have hm:(j+i)%J.length < J.length:=ei2 _ (by omega);show Mth.nx r (Mth.it r i (J.getD j 0))=_;rw[h.it hj i,h.nx hm,Nat.mod_add_mod,Nat.add_assoc]
theorem N8.per {r J:List Int}(h:N8 r J){j:Nat}(hj:j < J.length):J9 r (J.getD j 0) J.length:=by
 refine ⟨by omega,?_,fun i i0 i1 e=> ?_⟩
 · rw[h.it hj,el3,ef9 hj]
 · rw[h.it hj] at e;have hm:(j+i)%J.length < J.length:=ei2 _ (by omega)
   have hne:(j+i)%J.length≠j:=fun z=>by
     rcases ep2 (j+i) J.length with y|y
     · rw[ef9 y] at z;omega
     · have e2:(j+i)%J.length=j+i - J.length:=by
         rw[Nat.mod_eq_sub_mod y,ef9 (by omega)]
       omega
   exact S4 h.nd hm hj hne e
def ai0 (d l k:Nat):List Int:=(eh4 (d*l)).map fun i=>((L9 d l k (i/l) (i%l):Nat):Int)
theorem ay7 (d l k:Nat):(ai0 d l k).length=d*l:=by unfold ai0;rw[eb8,eg9]
theorem bg8 {d l i:Nat}(h:i < d*l):i/l < d:=by
 refine Nat.div_lt_of_lt_mul ?_;rw[ej0];exact h
theorem bt4 {d l k:Nat}(hl:0 < l)(c:ee4 l k=1):A1 (ai0 d l k):=by
 refine ⟨?_,fun x hx=> ?_,fun x hx=> ?_⟩
 · unfold ai0;rw[ee6,en1];refine List.Pairwise.imp_of_mem ?_ (ee6.mp (List.nodup_range (n:=d*l)));intro a b ha hb hne e;have ha:=eg8.mp ha;have hb:=eg8.mp hb
   have e':L9 d l k (a/l) (a%l)=L9 d l k (b/l) (b%l):=by omega
   obtain ⟨h1,h2⟩:=db3 (bg8 ha) (bg8 hb) (ei2 _ hl) (ei2 _ hl) c e';exact hne (by rw[<-eq7 a l,<-eq7 b l,h1,h2])
 · obtain ⟨i,_,rfl⟩:=ee3.mp hx;omega
 · obtain ⟨i,hi,rfl⟩:=ee3.mp hx;rw[ay7];have:=av2 (k:=k) (step:=i%l) (bg8 (eg8.mp hi)) hl;omega
theorem am9 {l:Nat}(hl:0 < l):∀{Rs:List (List Int)},(∀r∈Rs,r.length=l)->Rs.flatten.length=Rs.length*l/\∀a b,a < Rs.length->b < l->Rs.flatten[a*l+b]? =(Rs.getD a [])[b]?
 |[],_=>⟨by simp,fun a b h=>by simp at h⟩
 |r::Rs,h=>by
  have hr:=h r ec5
  obtain ⟨i1,i2⟩:=am9 hl (Rs:=Rs) fun q hq=>h q (ec9 _ hq)
  refine ⟨by rw[ee8,ec2,i1,hr,ef6,ej7,ek3],fun a b ha hb=> ?_⟩;rw[ee8]
  cases a with
  |zero=>
   rw[et6,en5,ef3 (by omega)];rfl
  |succ a=>
   rw[ej7,ed6 (by omega),hr]
   have e:a*l+l+b - l=a*l+b:=by omega
   rw[e,i2 a b (by simp only[ef6] at ha;omega) hb];rfl
structure ae1 (l k:Nat)(Rs:List (List Int))(J:List Int):Prop where
 len:J.length=Rs.length*l
 at_:(ai0 Rs.length l k).map (A4 J)=Rs.flatten.map some
theorem ae1.perm {l k:Nat}{Rs:List (List Int)}{J:List Int}(hl:0 < l)(c:ee4 l k=1)(h:ae1 l k Rs J):J.Perm Rs.flatten:=
 am2 (bt4 hl c) (by rw[ay7];exact h.len) h.at_
theorem ae1.get {l k:Nat}{Rs:List (List Int)}{J:List Int}(hl:0 < l)(hr:∀r∈Rs,r.length=l)(h:ae1 l k Rs J){a b:Nat}(ha:a < Rs.length)(hb:b < l):J.getD (L9 Rs.length l k a b) 0=(Rs.getD a []).getD b 0:=by
 have hi:a*l+b < Rs.length*l:=by
   calc a*l+b < a*l+l:=by omega
     _=(a+1)*l:=by rw[ej7]
     _<=Rs.length*l:=en7 l ha
 have e:=congrArg (fun z:List (Option Int)=>z[a*l+b]?) h.at_;unfold ai0 at e;rw[ec1,ec1,ej4 hi,ec1,(am9 hl hr).2 a b ha hb] at e
 have d1:(a*l+b)/l=a:=by
   rw[ej0,eu2 hl,et1 hb,Nat.add_zero]
 have d2:(a*l+b)%l=b:=by
   rw[ej0,Nat.mul_add_mod,ef9 hb]
 simp only[Option.map_some,d1,d2] at e
 have hra:(Rs.getD a []).length=l:=by
   refine hr _ ?_;rw[ed0,eb9 ha];exact ee5 ha
 rw[eb9 (by omega)] at e;have e:=Option.some.inj e;have hp:=av2 (k:=k) (step:=b) ha hl;rw[<-h.len] at hp;unfold A4 at e;rw[ed7,eb9 hp] at e;rw[ed0,eb9 hp,ed0,eb9 (show b < (Rs.getD a []).length by omega)]
 simpa using e
def ct4 (p:List Int)(m:Nat)(J:List Int)(x:Int):Prop:=
 ∃(l k:Nat) (Rs:List (List Int)) (a b:Nat) (y:Int),0 < l/\m=Rs.length*k/\ee4 l k=1/\(∀r∈Rs,r.length=l)/\ae1 l k Rs J/\a < Rs.length/\b < l/\In p y/\J9 p y l/\Rs.getD a []=w9 p y l/\x=it p b y
theorem dj0 {p r:List Int}{m:Nat}{qs:List (List Int)}(tp:A1 p)(hlen:r.length=p.length)(hq:∀J∈qs,N8 r J)(hx:∀x,In p x->∃J∈qs,ct4 p m J x):A1 r/\N6 r (m:Int) p:=by
 have at_:∀x,In p x->∃J∈qs,∃j,j < J.length/\x=J.getD j 0/\J.getD ((j+m)%J.length) 0=nx p x:=fun x hxi=>by
   obtain ⟨J,hJ,l,k,Rs,a,b,y,l0,rfl,c,hr,hj,ha,hb,hy,py,er,rfl⟩:=hx x hxi;refine ⟨J,hJ,L9 Rs.length l k a b,by rw[hj.len];exact av2 ha l0,?_,?_⟩
   · rw[hj.get l0 hr ha hb,er,N1 hb]
   · rw[hj.len,ct3 ha l0,hj.get l0 hr ha (ei2 _ l0),er,N1 (ei2 _ l0),aj7 py.back];rfl
 have inr:∀x,In r x↔In p x:=fun x=>by unfold In;rw[hlen]
 have tr:A1 r:=by
   refine cb4 (fun x h=> ?_) fun x h=> ?_
   · obtain ⟨J,hJ,j,hj,rfl,_⟩:=at_ x ((inr x).mp h);rw[(hq J hJ).nx hj];exact (hq J hJ).in_ (ei2 _ (by omega))
   · obtain ⟨J,hJ,j,hj,rfl,_⟩:=at_ x ((inr x).mp h);have:=(hq J hJ).per hj;exact ⟨_,this.pos,this.back⟩
 refine ⟨tr,dp6 tr hlen.symm fun x h L hL=> ?_⟩;obtain ⟨J,hJ,j,hj,rfl,e⟩:=at_ x ((inr _).mp h);have hp:=(hq J hJ).per hj;have:L=J.length:=hL.uniq hp;subst this;exact ⟨m,by simp,by rw[(hq J hJ).it hj,e]⟩
end Mth
namespace L2
open PySem PySem.Spec PyProof.Rows
theorem bd5:∀{us:List Value} {ns:List Int},us.length=ns.length->(∀(j:Nat) i,ns[j]? =some i->∃t,us[j]? =some (.int i t))->IntsAre us ns
 |[],[],_,_=> .nil
 |[],_::_,h,_=>by simp at h
 |_::_,[],h,_=>by simp at h
 |u::us,n::ns,h,hj=>by
  obtain ⟨t,e⟩:=hj 0 n rfl;have e:u= .int n t:=Option.some.inj e;subst e;exact .cons n t (bd5 (by simpa using h) fun j i hi=>hj (j+1) i hi)
section
variable {prog:Program} {w:World} {A:Around} {E:Value->Shared->Prop} {s:Shared} {κ:Type} [DecidableEq κ] {knd:KeyKind prog w κ}
theorem bt5 {d:Addr}{kvs:List (κ×Value)}{ep:Nat}{Q:List Value->Shared->Prop}(hh:A.handled=none)(hd:(d==sysModules)=false)(hm:s.heap.DictAt knd d kvs ep)(hn:kvs.length<=sizeLine)
   (hQ:∀(h':Heap) (tk:Nat) (acc:Array Value),s.heap.objs.size<=h'.objs.size->(∀b o,s.heap.get? b=some o->h'.get? b=some o)->acc.size=kvs.length->(∀(j:Nat) v,acc[j]? =some v->∃k x,kvs[j]? =some (k,x)/\knd.is k v=true)->Q acc.toList {s with heap:=h',toks:=tk}):
   wpAny (model prog w) A (collect (.ref d)) Q E s:=by
 have hdS:s.heap.objs.size≠d:=fun e=>absurd (hm.lt_size) (by rw[e];exact eh8 _)
 unfold collect;refine wpAny_bind (wpAny_runValue (codeAny_builtin F.entry_proto_collect ?_));rw[Around.under_plainId F.plain_proto_collect _];show wpAny _ A.in1 (newList [] >>=fun l=>again (.builtin "list.__iadd__" ⟨[l,.ref d],[]⟩)) _ _ s;refine wpAny_bind (wpAny_newObj_type ?_);refine wpAny_pure ⟨plainId_quiet F.plain_list_iadd _,codeAny_builtin F.entry_list_iadd ?_⟩;rw[Around.under_plainId F.plain_list_iadd _];have hm₁:=hm.push {cls:= .type "list",data:= .seq ([]:List Value).toArray};have hS₁:(s.heap.push {cls:= .type "list",data:= .seq ([]:List Value).toArray}).get? s.heap.objs.size=some {cls:= .type "list",data:= .seq ([]:List Value).toArray}:=Heap.get?_push_size _ rfl
 have h1:Builtin.List.listSameRef (.ref s.heap.objs.size) (.ref d)=false:=by simp [Builtin.List.listSameRef,hdS]
 have hT:({s with heap:=s.heap.push {cls:= .type "list",data:= .seq ([]:List Value).toArray}}:Shared).TypeIs (.ref d) "dict":=hm₁.dictOf.typeIs;show wpAny _ A.in1 (Builtin.List.listExtendWith (.ref s.heap.objs.size) (.ref d) (.ref s.heap.objs.size)) _ _ _;unfold Builtin.List.listExtendWith;refine wpAny_bind (wpAny_typeOf hT ?_);rw[if_neg (by rw[h1];decide)];refine wpAny_bind (wpAny_pyIter_dict hd hm₁ ?_);generalize hh1:s.heap.push {cls:= .type "list",data:= .seq ([]:List Value).toArray}=H1 at hm₁ hS₁ hT ⊢
 have hsz1:H1.objs.size=s.heap.objs.size+1:=by rw[<-hh1,Heap.size_push]
 have hm₂:=hm₁.push {cls:= .type "dict_keyiterator",data:= .fields #[.ref d,.int 0 0,.int kvs.length 0,.int ep 0]};have hS₂:(H1.push {cls:= .type "dict_keyiterator",data:= .fields #[.ref d,.int 0 0,.int kvs.length 0,.int ep 0]}).get? s.heap.objs.size=some {cls:= .type "list",data:= .seq ([]:List Value).toArray}:=Heap.get?_push_of_some _ hS₁;have hit:(H1.push {cls:= .type "dict_keyiterator",data:= .fields #[.ref d,.int 0 0,.int kvs.length 0,.int ep 0]}).IsKeyIter H1.objs.size d 0 kvs.length ep:=⟨_,Heap.get?_push_size _ rfl,rfl,rfl⟩
 have old2:∀b o,s.heap.get? b=some o->(H1.push {cls:= .type "dict_keyiterator",data:= .fields #[.ref d,.int 0 0,.int kvs.length 0,.int ep 0]}).get? b=some o:=fun b o e=>Heap.get?_push_of_some _ (by rw[<-hh1];exact Heap.get?_push_of_some _ e)
 have hT₂:({s with heap:=H1.push {cls:= .type "dict_keyiterator",data:= .fields #[.ref d,.int 0 0,.int kvs.length 0,.int ep 0]}}:Shared).TypeIs (.ref d) "dict":=hm₂.dictOf.typeIs;generalize (H1.push {cls:= .type "dict_keyiterator",data:= .fields #[.ref d,.int 0 0,.int kvs.length 0,.int ep 0]})=H2 at hm₂ hS₂ hit old2 hT₂ ⊢
 have hIS:H1.objs.size≠s.heap.objs.size:=by omega
 have hdI:d≠H1.objs.size:=fun e=>absurd (hm₁.lt_size) (by rw[e];exact eh8 _)
 have W:=(Walks.dictKeys (prog:=prog) (w:=w) (A:=A.in1) (knd:=knd) hh H1.objs.size d hdI kvs ep).toS
 have hSf:s.heap.objs.size∉[H1.objs.size,d]:=by
   intro hb
   rcases ec8.mp hb with e|e
   · exact hIS e.symm
   · have:s.heap.objs.size=d:=by simpa using e
     exact hdS this
 refine wpAny_bind (wpAny_holding ?_);unfold Builtin.List.listLengthHint;refine wpAny_bind (wpAny_specialOf hT₂ PySem.F.slot_dict_len.lookup ?_)
 (generalize hid:("dict.__len__":String)=id0;(fail_if_success (clear hid id0));wp_delta;rw[show splitId id0=some ("dict","__len__") from by subst hid;decide+kernel];subst hid)
 refine wpAny_bind (wpAny_isInstance (b:=true) hT₂ (by rw[isSubtype_type];kernel_rfl) ?_);rw[if_neg (by decide)];show wpAny _ A.in1 (typeOf (.ref d) >>=_) _ _ _;refine wpAny_bind (wpAny_typeOf hT₂ ?_);refine wpAny_pure ?_
 show wpAny _ A.in1 (rule "list.extend.makes-room" >>=fun _=>Builtin.List.listTouch (.ref s.heap.objs.size) >>=fun _=>
   again (.builtin "list.extend.loop" ⟨[.ref s.heap.objs.size,.ref H1.objs.size,.ref s.heap.objs.size],[]⟩)) _ _ _
 refine wpAny_bind (wpAny_rule ?_);refine wpAny_bind ?_;show wpAny _ A.in1 (updateSeq s.heap.objs.size (·.push .none) >>=fun _=>updateSeq s.heap.objs.size (·.pop)) _ _ _;refine wpAny_bind (wpAny_updateSeq hS₂ rfl ?_);have hS₃:=Heap.get?_update_self (Obj.mapSeq (·.push Value.none)) hS₂ rfl;refine wpAny_updateSeq hS₃ rfl ?_;have hS₄:=Heap.get?_update_self (Obj.mapSeq (·.pop)) hS₃ rfl
 have oth:∀b o,b≠s.heap.objs.size->H2.get? b=some o->((H2.update s.heap.objs.size (Obj.mapSeq (·.push Value.none))).update s.heap.objs.size (Obj.mapSeq (·.pop))).get? b=some o:=
   fun b o hb e=>(Heap.get?_update_other _ _ (Ne.symm hb)).trans ((Heap.get?_update_other _ _ (Ne.symm hb)).trans e)
 refine wpAny_pure ⟨plainId_quiet F.plain_extend_loop _,codeAny_extend_loopS W hn _ hSf _ kvs.length 0 _ _ _ rfl (ee2 _)
   ⟨hit.at fun o e=>oth _ o hIS e,hm₂.at' fun o e=>oth _ o hdS.symm e⟩ hS₄ (ItemsOf.nil _) fun s' acc' c' hmv hS' hacc=> ?_⟩
 show wpAny _ A (load s.heap.objs.size >>=_) _ _ s';refine wpAny_bind (wpAny_load hS' ?_);refine wpAny_pure ?_
 have es':s'={s with heap:=s'.heap,toks:=s'.toks}:=by
   obtain ⟨h,g,dr,t,os⟩:=s';have a1:=hmv.gens;have a2:=hmv.drawn;have a3:=hmv.os
   dsimp only at a1 a2 a3
   rw[a1,a2,a3]
 rw[es'];refine hQ s'.heap s'.toks acc' (eh9 (Heap.lt_size hS')) (fun b o e=> ?_) hacc.1 hacc.2;have hb:b < s.heap.objs.size:=Heap.lt_size e;have hbS:b≠s.heap.objs.size:=ed2 hb;refine hmv.heap b o (fun hm=> ?_) (oth b o hbS (old2 b o e))
 rcases ec8.mp hm with z|z
 · exact hbS z
 · have:b=H1.objs.size:=by simpa using z
   rw[this,hsz1] at hb;exact absurd hb (Nat.not_lt.mpr (ek2 _))
theorem cb5 {d:Addr}{kvs:List (κ×Value)}{ep:Nat}{ns:List Int}{Q:Value->Shared->Prop}(hh:A.handled=none)(hd:(d==sysModules)=false)(hm:s.heap.DictAt knd d kvs ep)(hI:∀acc:Array Value,acc.size=kvs.length->(∀(j:Nat) v,acc[j]? =some v->∃k x,kvs[j]? =some (k,x)/\knd.is k v=true)->IntsAre acc.toList ns)(h64:kvs.length < 64)
   (h:∀(h':Heap) (tk:Nat) (a:Addr) (out:Array Value) (ns':List Int) (e:Nat),s.heap.objs.size<=a->(∀b o,s.heap.get? b=some o->h'.get? b=some o)->h'.get? a=some (seqObj "list" out e)->IntsAre out.toList ns'->ns'.Perm ns->ns'.Pairwise (· <= ·)->Q (.ref a) {s with heap:=h',toks:=tk}):
   wpAny (model prog w) A (call (.builtin "sorted") [.ref d]) Q E s:=by
 refine Calls.call_function_entry kind_sorted plain_sorted entry_sorted (args_sorted1 _) ?_;unfold Builtin.«sorted»;refine wpAny_bind (m:=checkCount "sorted" 1 1 _) (wpAny_pure ?_);refine wpAny_bind (bt5 hh hd hm (by rw[sizeLine_eq];omega) fun h1 tk acc hle old hsz hit=> ?_);have hInt:=hI acc hsz hit;refine wpAny_bind (wpAny_newList ?_ (hsz:=by rw[ef5,hsz,sizeLine_eq];omega));have hoL:(h1.push (seqObj "list" acc.toList.toArray 0)).get? h1.objs.size=some (seqObj "list" acc.toList.toArray 0):=Heap.get?_push_size _ rfl;show wpAny _ _ _ _ _ {s with heap:=h1.push (seqObj "list" acc.toList.toArray 0),toks:=tk};refine wpAny_bind (wpAny_holding (wpAny_call_entry slot_list_sort ⟨_,hoL,rfl⟩ entry_list_sort (list_sort_tree hoL hInt (by rw[ef5,hsz];exact h64) fun out ns' a1 a2 a3=>⟨_,rfl,?_⟩) (args_list_sort _)));refine wpAny_pure ⟨_,rfl,?_⟩;obtain ⟨e,he⟩:=sortedHeap_at (out:=out) hoL;refine h _ tk h1.objs.size out ns' e hle (fun b o e=> ?_) he a1 a2 a3;have hb1:=old b o e;have hlt:b < h1.objs.size:=Heap.lt_size hb1;rw[sortedHeap_old (ed2 hlt) (by rw[Heap.size_push];exact ek0 hlt)];exact Heap.get?_push_of_some _ hb1
end
section
variable {X:Cx}
theorem bt6 {pins:List (Addr×Obj)}{σ:St}{H:Hp}{s:Shared}(I:i9 X pins σ H s){h':Heap}{tk:Nat}{a:Addr}{out:Array Value}{ms:List Int}{e:Nat}(ha:s.heap.objs.size<=a)(k:∀b o,s.heap.get? b=some o->h'.get? b=some o)(he:h'.get? a=some (seqObj "list" out e))(hi:IntsAre out.toList ms)(hl:ms.length<=sizeLine):
   i9 X pins σ (i8 H a (.lst (ms.map V.int))) {s with heap:=h',toks:=tk}:=
 I.laid (t':=tk) k ha (show A5 X.prog X.w _ _ _ (.lst (ms.map V.int)) from ⟨by rw[eb8];exact hl,out.toList,e,ag8 hi,he⟩)
theorem bt7 (hc:X.calm=true):K0 X (.builtin "sorted") (fun xs H Q=>∃(d:Addr) (kvs:List (x5×V)) (ns:List Int),xs=[.ref d]/\H d=some (.dK kvs)/\kvs.map (·.1)=ns.map Sum.inl/\ns.length < 64/\∀(ms:List Int) l,ms.Perm ns->ms.Pairwise (· <= ·)->H l=none->Q (.ref l) (i8 H l (.lst (ms.map V.int)))):=by
 intro pins s σ H xs us Q I r h;obtain ⟨d,kvs,ns,rfl,hH,hk,h64,q⟩:=h;obtain ⟨u,rfl,rx⟩:=M9 r;cases rx;obtain ⟨_,hsm,vs,rel,o,es,ep,ho,hcx,hdat,rr⟩:=(show A5 X.prog X.w H s.heap d (.dK kvs) from I.hok d _ hH);have hat:s.heap.DictAt (A9 X.prog X.w) d vs ep:=⟨o,es,ho,hcx,hdat,rr⟩;have hlen:kvs.length=vs.length:=rel.length
 have hkn:kvs.length=ns.length:=by have:=congrArg en0 hk;rw[eb8,eb8] at this;exact this
 refine cb5 (ns:=ns) (I.ok.hd hc) hsm hat (fun acc hsz hit=> ?_) (by omega) fun h' tk a out ms e ha kp he hi pm srt=> ?_
 · refine bd5 (by rw[ef5];omega) fun j i hj=> ?_
   have hjl:j < ns.length:=(ec0.mp hj).1
   have hja:j < acc.size:=by omega
   obtain ⟨k,x,hkx,his⟩:=hit j acc[j] (eo2 hja);have hj1:kvs[j]? =some kvs[j]:=eb9 (by omega);obtain ⟨⟨k',x'⟩,e2,e3,_⟩:=bd3 rel hj1;rw[hkx] at e2;cases e2;have e3:kvs[j].1=k:=e3;have e4:=congrArg (fun z:List x5=>z[j]?) hk;rw[ec1,ec1,hj1,hj] at e4;have e5:kvs[j].1=Sum.inl i:=Option.some.inj e4;rw[<-e3,e5] at his;obtain ⟨t,et⟩:=(show ∃t,acc[j]=Value.int i t from bt1 his);exact ⟨t,by rw[ef2,eo2 hja,et]⟩
 · have hl:ms.length<=sizeLine:=by rw[pm.length_eq,sizeLine_eq];omega
   exact ⟨.ref a,_,bt6 I ha kp he hi hl,rfl,q ms a pm srt (I.hok.fresh ha)⟩
theorem ck6 {e:Expr}{t:TA}{p pos:Pos}(hc:X.calm=true)(hm:X.mg "sorted"=none)(ha:PA X [e] t)(hg:Gl X "sorted":=by rfl)(he:starEach [e] X.env=(false,eval e X.env)::starEach [] X.env:=by rfl):
   PE X (.Call (.Name "sorted" p) [e] [] pos) (V9 (fun xs H Q=>∃(d:Addr) (kvs:List (x5×V)) (ns:List Int),xs=[.ref d]/\H d=some (.dK kvs)/\kvs.map (·.1)=ns.map Sum.inl/\ns.length < 64/\∀(ms:List Int) l,ms.Perm ns->ms.Pairwise (· <= ·)->H l=none->Q (.ref l) (i8 H l (.lst (ms.map V.int)))) t):=
 K7 (bt7 hc) hg hm X0 ha (by decide) (by decide) he rfl
def bt8 (lo st:Int)(n:Nat):It:=⟨fun i _=>i < n,fun i H x H'=>H'=H/\x= .int (lo+i*st),fun i _=>n<=i⟩
theorem cb6 {P:Program}{w:World}{K:PySem.W.Frag}{tg:Expr}(it:Addr)(lo st:Int)(n:Nat):al4 P w K tg (bt8 lo st n) [it] it (fun i h=>IsRangeIter h it (lo+(i:Nat)*st) ((n:Int) - (i:Nat)) st) where
 mem:=by simp
 obj:=fun i h st' b hb=>by
   have e:b=it:=by simpa using hb
   subst e
   exact ⟨_,st',fun v z=>by
     have z':Data.fields _=Data.cell v:=z
     cases z'⟩
 keep:=fun i h h' st' k=>k it (by simp) _ st'
 item:=by
   intro X hP hw hK hc i pins s σ H E I hf st' hg;subst hP hw hK;obtain ⟨f0,f1,f2,f3,f4,f5⟩:=hf it (by simp);have W:=Walks.range (prog:=X.prog) (w:=X.w) (I.ok.hd hc) it lo st n
   refine W.item i s _ _ hg st' fun v h' tk hv st'' kk=> ?_
   obtain ⟨t,rfl⟩:=hv;have I1:i9 X pins σ H {s with heap:=h',toks:=tk}:=I.turned (fun b o hb e=>kk b o (by simpa using hb) e) f0 f1 f3 f4 f5;exact ⟨_,rfl,bb2 (s:={s with heap:=h',toks:=tk}) (n:="range_iterator") st'' rfl rfl (by decide) ⟨.int (lo+i*st),H,I1,⟨t,rfl⟩,⟨rfl,rfl⟩,st'',fun b hb=>(hf b hb).1⟩⟩
 done:=by
   intro X hP hw hK hc i pins s σ H E I hf st' hg;subst hP hw hK;obtain ⟨f0,f1,f2,f3,f4,f5⟩:=hf it (by simp)
   exact wpAny_pyNext_range_end (I.ok.hd hc) st' (by have:n<=i:=hg;omega) fun h' eb=>⟨rfl,I.turned (t':=s.toks) (fun b o hb e=>eb b o hb e) f0 f1 f3 f4 f5⟩
 self:=fun _ _ _ _ _ st' h=>wpAny_pyIter_rangeiter st' h
def du9 (ta:TA):TI:=fun σ H R=>ta σ H fun vs H1=>∃(b c:Nat),vs=[.int 0,.int (b:Int),.int (c:Int)]/\1<=b/\b<=1000/\1<=c/\c<=1000/\R (bt8 0 (c:Int) ((b - 1)/c+1)) H1
theorem df7 {b c:Nat}(b1:1<=b)(c1:1<=c):Builtin.Range.rangeSize 0 (b:Int) (c:Int)=(((b - 1)/c+1:Nat):Int):=by
 unfold Builtin.Range.rangeSize;rw[if_pos (by omega),if_pos (by omega)]
 have:(b:Int) - 0 - 1=((b - 1:Nat):Int):=by omega
 rw[this,<-eq2];rfl
theorem dp7 {b c:Nat}(b1:1<=b)(b2:b<=1000)(c1:1<=c)(c2:c<=1000):Builtin.Range.small 0 (b:Int) (c:Int)=true:=by
 unfold Builtin.Range.small;rw[df7 b1 c1];have h1:(b - 1)/c<=b - 1:=Nat.div_le_self _ _;have h2:(b - 1)/c*c<=b - 1:=Nat.div_mul_le_self _ _;generalize hq:(b - 1)/c=q at h1 h2 ⊢;simp only[Builtin.Range.rangeFitsLong,ef7,eo5,decide_eq_true_eq,beq_iff_eq,show (c:Int) > 0 by omega,if_true];exact ⟨⟨⟨⟨⟨by decide,by decide⟩,by omega,by omega⟩,by omega,by omega⟩,by omega,by omega⟩,.inr ⟨by omega,by omega⟩⟩
theorem ct5 {tg a b c:Expr}{ta:TA}{p pos:Pos}(hg:Gl X "range")(hm:X.mg "range"=none)(ha:PA X [a,b,c] ta)(hs:starEach [a,b,c] X.env=(false,eval a X.env)::starEach [b,c] X.env:=by rfl)(hpl:(backTo pos (starEach [b,c] X.env)).any (·.1)=false:=by rfl):
   PI X tg (.Call (.Name "range" p) [a,b,c] [] pos) (du9 ta):=by
 intro pins s σ H R I h;refine Call_ (Q2 I hg hm boot_range (PyProof.Rows.callWith_type1 (r6 (ha pos pins s σ H _ I h) fun us s1 ⟨vs,H1,I1,r1,q1⟩=> ?_) hs hpl));obtain ⟨bn,cn,e,b1,b2,c1,c2,q⟩:=q1;subst e
 cases r1 with
 |cons r rr=>
  cases rr with
  |cons r' rr=>
   cases rr with
   |cons r'' rr=>
    cases rr;obtain ⟨t,rfl⟩:=r;obtain ⟨t',rfl⟩:=r';obtain ⟨t'',rfl⟩:=r'';refine call_range_3 (by omega) ?_ (.inl (PyProof.noPylong_small (by omega)));refine wpAny_pyIter_range (IsRange.new ..) (dp7 b1 b2 c1 c2) ?_
    have I2:i9 X pins σ H1 {s1 with heap:=s1.heap.push {cls:= .type "range",data:= .fields #[.int 0 t,.int (bn:Int) t',.int (cn:Int) t'']},toks:=s1.toks}:=I1.kept fun b o e=>Heap.get?_push_of_some _ e
    refine ⟨(s1.heap.push {cls:= .type "range",data:= .fields #[.int 0 t,.int (bn:Int) t',.int (cn:Int) t'']}).objs.size,[(s1.heap.push {cls:= .type "range",data:= .fields #[.int 0 t,.int (bn:Int) t',.int (cn:Int) t'']}).objs.size],_,_,H1,rfl,
      I2.kept (t':=s1.toks) fun b o e=>Heap.get?_push_of_some _ e,cb6 _ 0 (cn:Int) ((bn - 1)/cn+1),?_,fun b hb=> ?_,q⟩
    · show IsRangeIter _ _ ((0:Int)+((0:Nat):Int)*(cn:Int)) ((((bn - 1)/cn+1:Nat):Int) - ((0:Nat):Int)) (cn:Int)
      have e1:(0:Int)+((0:Nat):Int)*(cn:Int)=0:=by simp
      have e2:(((bn - 1)/cn+1:Nat):Int) - ((0:Nat):Int)=Builtin.Range.rangeSize 0 (bn:Int) (cn:Int):=by rw[df7 b1 c1];omega
      rw[e1,e2];exact Heap.get?_push_size _ rfl
    · have e:b=(s1.heap.push {cls:= .type "range",data:= .fields #[.int 0 t,.int (bn:Int) t',.int (cn:Int) t'']}).objs.size:=by simpa using hb
      subst e;exact I2.fpOk (ec6 _) (I2.hok.fresh (ec6 _))
theorem ck7 {lo st:Int}{n:Nat}{g:TG}{tb:TS}{D:T9}{σ:St}{H:Hp}(Pv:Nat->St->Hp->Prop)(h0:Pv 0 σ H)
   (hs:∀i σ H,i < n->Pv i σ H->g (.int (lo+i*st)) σ H fun σ2 H2=>tb {D with nx:=Pv (i+1),ct:=Pv (i+1),bk:=D.nx} σ2 H2) (hd:∀σ H,Pv n σ H->D.nx σ H):
   ∃W:Nat->Nat->St->Hp->Prop,(∃m,W 0 m σ H)/\∀i m σ H,W i m σ H->
    ((bt8 lo st n).stop i H/\D.nx σ H)\/((bt8 lo st n).go i H/\∃N:St->Hp->Prop,(∀σ' H',N σ' H'->∃m',m' < m/\W (i+1) m' σ' H')/\∀x H',(bt8 lo st n).yld i H x H'->g x σ H' fun σ2 H2=>tb {D with nx:=N,ct:=N,bk:=D.nx} σ2 H2):=by
 refine ⟨fun i m σ H=>m=n - i/\i<=n/\Pv i σ H,⟨n,by simp,ee2 _,h0⟩,?_⟩;rintro i m σ H ⟨rfl,hi,p⟩
 by_cases hlt:i < n
 · refine .inr ⟨hlt,Pv (i+1),fun σ' H' p'=>⟨n - (i+1),by omega,rfl,hlt,p'⟩,fun x H' y=> ?_⟩;obtain ⟨e,y⟩:=y;subst e y;exact hs i σ _ hlt p
 · have e:i=n:=by omega
   subst e;exact .inl ⟨ec6 _,hd σ H p⟩
end
end L2
namespace Mth
theorem bt9 {p:List Int}(t:A1 p):∀i,i<=p.length->C4 p i (w5 p i)
 |0,_=>am5 p
 |i+1,h=>by
  have ih:=bt9 t i (by omega);show C4 p (i+1) (if (i:Int)∈(w5 p i).flatten then w5 p i else w5 p i++[w9 p i (W9 p i)]);have hx:In p (i:Int):=⟨by omega,by omega⟩
  by_cases hi:(i:Int)∈(w5 p i).flatten
  · rw[if_pos hi];exact am6 ih hi
  · rw[if_neg hi];obtain ⟨L,hL⟩:=bc9 t hx;rw[V5 hL];exact am7 t ih hx hL hi
theorem C1 {p:List Int}(t:A1 p):C4 p p.length (w5 p p.length):=bt9 t _ (ec6 _)
theorem bu0 {p t:List Int}{k:Int}(tp:A1 p)(h:N6 p k t){x:Int}(hx:In p x){L:Nat}(hL:J9 p x L){m:Nat}(hm:((m:Int) - k)%(L:Int)=0):∀i,it t i x=it p (m*i) x
 |0=>by rw[et4];rfl
 |i+1=>by
  show nx t (it t i x)=_;rw[bu0 tp h hx hL hm i];obtain ⟨M,hM,e⟩:=cs3 h (U8 tp hx (m*i));have:=(hL.shift tp hx (m*i)).uniq hM;subst this;rw[e m hm,<-J8,Nat.mul_succ,ek3]
theorem cf8 {p t:List Int}{k:Int}(tp:A1 p)(h:N6 p k t){x:Int}(hx:In p x){L:Nat}(hL:J9 p x L){m:Nat}(hm:((m:Int) - k)%(L:Int)=0):J9 t x (L/ee4 L m):=by
 have lp:=hL.pos;have gp:0 < ee4 L m:=ek5 _ lp;obtain ⟨a,ha⟩:=eo0 L m;obtain ⟨b,hb⟩:=ek1 L m;have cp:er9 (L/ee4 L m) (m/ee4 L m):=en3 gp;generalize ee4 L m=g at*
 have e1:L/g=a:=by rw[ha,ek4 _ gp]
 have e2:m/g=b:=by rw[hb,ek4 _ gp]
 rw[e1,e2] at cp;rw[e1];refine ⟨?_,?_,fun i i0 i1 e=> ?_⟩
 · rcases ej8 a with z|z
   · rw[z] at ha;omega
   · exact z
 · rw[bu0 tp h hx hL hm,hb,show g*b*a=L*b by rw[ha];ac_rfl];exact ar9 hL.back b
 · rw[bu0 tp h hx hL hm] at e;have d:=di5 hL e;rw[ha,hb,eq1] at d;have d2:a∣b*i:=en2 gp d;have d3:a∣i:=cp.dvd_of_dvd_mul_left d2;exact absurd (ej1 i0 d3) (by omega)
theorem bm1 {D:Nat}{g:Int->Bool}:∀{rs:List (List Int)},(∀r∈rs,(∀x∈r,g x=false)\/((∀x∈r,g x=true)/\D∣r.length))->D∣rs.flatten.countP g
 |[],_=>by simp
 |r::rs,h=>by
  have ih:=bm1 (D:=D) (g:=g) (rs:=rs) fun q hq=>h q (ec9 _ hq)
  rw[ee8,List.countP_append];refine Nat.dvd_add ?_ ih
  rcases h r ec5 with z|⟨z,d⟩
  · rw[List.countP_eq_zero.mpr fun x hx=>by rw[z x hx];decide];exact Nat.dvd_zero D
  · rw[List.countP_eq_length.mpr fun x hx=>z x hx];exact d
theorem ck8 {p:List Int}(t:A1 p)(l:Nat):((L2.Q5 0 p.length).countP fun x=>decide (W9 p x=l))=l*L8 (w5 p p.length) l:=by
 rw[<-bd4 (aj9 t (C1 t)),(M4 t (C1 t)).countP_eq]
theorem db4 {p:List Int}(t:A1 p):L8 (w5 p p.length) 0=0:=by
 by_cases z:L8 (w5 p p.length) 0=0
 · exact z
 · obtain ⟨r,hr,e⟩:=bg7 z;obtain ⟨y,L,hy,pr,er,_⟩:=(C1 t).ring r hr;rw[er,A2] at e;have:=pr.pos;omega
theorem an0 {r p:List Int}{m l d:Nat}(tr:A1 r)(h:N6 r (m:Int) p)(hd:P1 l m d):d∣L8 (w5 p p.length) l:=by
 have tp:=cf5 tr h
 rcases ej8 l with z|l0
 · rw[z,db4 tp];exact Nat.dvd_zero d
 have e:=ck8 tp l
 have key:l*d∣l*L8 (w5 p p.length) l:=by
   rw[<-e,h.1,<-(M4 tr (C1 tr)).countP_eq]
   refine bm1 fun q hq=> ?_
   obtain ⟨y,L,hy,pr,er,_⟩:=(C1 tr).ring q hq
   have pers:∀x∈q,W9 p x=L/ee4 L m:=fun x hx=>by
     rw[er] at hx;obtain ⟨j,hj,rfl⟩:=C3.mp hx;exact V5 (cf8 tr h (U8 tr hy j) (pr.shift tr hy j) (by rw[Int.sub_self];rfl))
   by_cases hl:L/ee4 L m=l
   · refine .inr ⟨fun x hx=>by rw[pers x hx];exact decide_eq_true hl,?_⟩;have gp:0 < ee4 L m:=ek5 _ pr.pos
     have eL:L=l*ee4 L m:=by rw[<-hl,Nat.div_mul_cancel (eo0 L m)]
     rw[er,A2]
     have hr:d∣ee4 L m:=by
       refine hd.least _ (ek1 L m) ?_;have:=en3 gp;rw[hl] at this;exact this
     rw[eL];exact eq4 l hr
   · exact .inl fun x hx=>by rw[pers x hx];exact decide_eq_false hl
 exact en2 l0 key
structure bu1 (c:Nat->Nat)(m l d:Nat):Prop where
 some:1<=c l
 right:P1 l m d
 bad:¬d∣c l
 less:∀k,1<=c k->k < l->∀e,P1 k m e->e∣c k
end Mth
namespace Mth
def B2 (rs:List (List Int))(l:Nat):List (List Int):=rs.filter fun r=>decide (r.length=l)
theorem ak0 (rs:List (List Int))(l:Nat):(B2 rs l).length=L8 rs l:=by unfold B2 L8;rw[em8]
def JO (m:Nat)(rs:List (List Int))(J:List Int)(Rs:List (List Int)):Prop:=
 ∃l k,0 < l/\m=Rs.length*k/\ee4 l k=1/\(∀r∈Rs,r.length=l)/\1<=Rs.length/\ae1 l k Rs J/\(∀r∈Rs,r∈rs)/\P1 l m Rs.length/\∃j,Rs=((B2 rs l).drop (j*Rs.length)).take Rs.length
def ae2 (p:List Int)(m:Nat)(r:List Int):Prop:=r.length=p.length/\∀r0∈w5 p p.length,∃J Rs,JO m (w5 p p.length) J Rs/\r0∈Rs/\N8 r J
theorem bg9 {p:List Int}(t:A1 p){x:Int}(hx:In p x):∃r∈w5 p p.length,x∈r:=by
 have:=(C1 t).all x hx.1 hx.2;obtain ⟨r,hr,h⟩:=ef1.mp this;exact ⟨r,hr,h⟩
theorem JO.mem {p:List Int}{m:Nat}{J r0:List Int}{Rs:List (List Int)}(h:JO m (w5 p p.length) J Rs)(h0:r0∈Rs){x:Int}(hx:x∈r0):x∈J:=by
 obtain ⟨l,k,l0,hm,c,hl,d1,hj,_⟩:=h;exact (hj.perm l0 c).mem_iff.mpr (ef1.mpr ⟨r0,h0,hx⟩)
theorem db5 {p:List Int}{m:Nat}{r:List Int}(t:A1 p)(h:ae2 p m r){x:Int}(hx:In p x){l:Nat}(hl:J9 p x l):∃d,P1 l m d/\J9 r x (d*l):=by
 obtain ⟨r0,hr,hxr⟩:=bg9 t hx;obtain ⟨J,Rs,a1,a2,a3⟩:=h.2 r0 hr;have hxJ:=a1.mem a2 hxr;obtain ⟨l',k,l0,hm,c,hl',d1,hj,_,lr,_⟩:=a1
 have e:l'=l:=by
   rw[<-hl' r0 a2,<-aj9 t (C1 t) r0 hr x hxr,V5 hl]
 subst e;refine ⟨Rs.length,lr,?_⟩;obtain ⟨i,hi⟩:=eh1.mp hxJ;have il:=(ec0.mp hi).1
 have:x=J.getD i 0:=by rw[ed0,hi];rfl
 rw[this,<-hj.len];exact a3.per il
end Mth
namespace Mth
theorem dp8 {n c:Int}(hn:1<=n)(hc:0<=c):∃mx,(if (if n < c then n else c) > 1 then (if n < c then n else c) else (1:Int))=mx/\1<=mx/\mx<=n:=by
 refine ⟨_,rfl,?_⟩
 split<;>split at* <;>omega
structure Q7 (p:List Int)(h:Nat):Prop where
 pos:0 < h
 up:∀x,In p x->W9 p x∣h
 least:∀g,(∀x,In p x->W9 p x∣g)->h∣g
theorem Q7.uniq {p:List Int}{a b:Nat}(x:Q7 p a)(y:Q7 p b):a=b:=et0 (x.least b y.up) (y.least a x.up)
theorem as4 {p:List Int}(t:A1 p){ls:List Nat}{h:Nat}(e:ls=(w5 p p.length).map en0)(x:P7 ls h):Q7 p h:=by
 subst e;refine ⟨x.pos,fun y hy=> ?_,fun g hg=>x.least g fun l hl=> ?_⟩
 · obtain ⟨r,hr,hxr⟩:=bg9 t hy;rw[aj9 t (C1 t) r hr y hxr];exact x.up _ (ee3.mpr ⟨r,hr,rfl⟩)
 · obtain ⟨r,hr,rfl⟩:=ee3.mp hl;obtain ⟨y,L,hy,pr,er,_⟩:=(C1 t).ring r hr
   have hm:y∈r:=by rw[er];exact C3.mpr ⟨0,pr.pos,rfl⟩
   rw[<-aj9 t (C1 t) r hr y hm];exact hg y hy
theorem bd6 {p r q:List Int}{m h g:Nat}(tp:A1 p)(tq:A1 q)(ro:ae2 p m r)(hr:Q7 r h)(hq:N6 q (m:Int) p)(hg:Q7 q g):h∣g:=by
 refine hr.least g fun x hx=> ?_
 have hxp:In p x:=by unfold In at*;rw[<-ro.1];exact hx
 have hxq:In q x:=by unfold In at*;rw[<-hq.1];exact hxp
 obtain ⟨L,hL⟩:=bc9 tq hxq;have hl:=cf8 tq hq hxq hL (m:=m) (by rw[Int.sub_self];rfl);obtain ⟨d,lr,pr⟩:=db5 tp ro hxp hl;rw[V5 pr];have gp:0 < ee4 L m:=ek5 _ hL.pos;have hd:d∣ee4 L m:=lr.least _ (ek1 L m) (en3 gp)
 have:d*(L/ee4 L m)∣L:=by
   have e:L=ee4 L m*(L/ee4 L m):=(Nat.mul_div_cancel' (eo0 L m)).symm;have h2:=Nat.mul_dvd_mul_right hd (L/ee4 L m);rw[<-e] at h2;exact h2
 exact Nat.dvd_trans this (by have:=hg.up x hxq;rw[V5 hL] at this;exact this)
end Mth
namespace L2
open PySem PySem.Spec PyProof.Rows
theorem bm2:bootBuiltins "str"=some (.type "str"):=by decide+kernel
theorem ay8 {X:Cx}{p:Pos}(hm:X.mg "str"=none)(hg:Gl X "str":=by rfl):PE X (.Name "str" p) (tC (.ty "str")):=aj4 hg hm bm2 rfl
end L2
namespace L2
open PySem PySem.Spec PyProof.Rows
theorem E4.hide {P:Program}{w:World}{H:Hp}{h:Heap}{as:List Addr}(x:E4 P w H h)(hn:∀b∈as,H b=none):E4 P w H (PySem.W.hideAll h as):=fun a o e=>
 (x a o e).stay (fun b u hb q=>PySem.W.hideAll_get _ q fun hm=>by
   have:=hn b hm
   rcases hb with rfl|hb
   · rw[e] at this;cases this
   · rw[hb] at this;cases this) (fun _ q=>q) fun _ _ q=>q
def W2 (P:Program)(w:World):CXT:=fun outer H s E e s'=>
 ∃(a t C:Addr) (vs:List Value) (B:Heap) (H':Hp),e= .ref a/\s'.os=s.os/\AllBare s'.gens/\Un (C5 outer) [] H H' s.heap s'.heap/\E4 P w H' B/\
  (∀b o,s.heap.get? b=some o->H b=none->b∉C5 outer->B.get? b=some o)/\(∀b o,s.heap.get? b=some o->b∉C5 outer->∃o',B.get? b=some o')/\
  Heap.FlyingW B outer a (.ref C) (.ref t) s'.heap/\s'.heap.TupAt t vs/\B.get? t=none/\E (.ref C) none H'
theorem bu2 {fs:List Addr}{H0 H1:Hp}{h0 h1 h2 B:Heap}(u:Un fs [] H0 H1 h0 h1)(kb:∀b o,h0.get? b=some o->H0 b=none->b∉fs->B.get? b=some o)(tb:∀b o,h0.get? b=some o->b∉fs->∃o',B.get? b=some o')
   (st:B.StaysIn h2) (up:h1.UpToSlots h2) (fr:∀b∈fs,∀o,h1.get? b=some o->∀vs,o.data≠.fields vs):Un fs [] H0 H1 h0 h2 where
 keep:=fun b o q n hb _=>st b o (kb b o q n hb)
 slot:=fun b o q n hb hx=>by
   obtain ⟨sl,e⟩:=u.slot b o q n hb hx;obtain ⟨sl2,e2⟩:=up b _ e (fr b hb _ e);exact ⟨sl2,e2⟩
 free:=u.free
 there:=fun b o q hx=>by
   by_cases hb:b∈fs
   · obtain ⟨o',e⟩:=u.there b o q hx;obtain ⟨sl,e2⟩:=up b o' e (fr b hb _ e);exact ⟨_,e2⟩
   · obtain ⟨o',e⟩:=tb b o q hb;exact ⟨o',st b o' e⟩
 tups:=u.tups
 frzs:=u.frzs
 tbls:=u.tbls
def ct6 (X:Cx)(E:XK):Prop:=∀(pins:List (Addr×Obj)) (σ:St) (H:Hp) (s:Shared) (h':Heap) (e C:Addr) (vs:List Value),i9 X pins σ H s->Heap.MadeExcOf s.heap h' e (.ref C) vs->E (.ref C) none H->X.xe (.ref e) {s with heap:=h'}
theorem bu3 {X:Cx}{pins:List (Addr×Obj)}{σ:St}{H:Hp}{s:Shared}(I:i9 X pins σ H s):∀b∈C5 X.stack,∀o,s.heap.get? b=some o->∀vs,o.data≠.fields vs:=fun b hb o ho=>by
 obtain ⟨_,o',ho',hn⟩:=I.stack.mem hb;rw[ho] at ho';cases ho';exact hn
section
variable {P:Program} {w:World} {K:PySem.W.Frag} {mg:Str->Option Value} {base:Heap} {N:List Str} {qual:Str} {scope:Scope} {f:Addr} {cd:Value} {A:Around} {outer:List Env} {s₀:Shared} {H₀:Hp} {E E':XK}
theorem aa7 {pins:List (Addr×Obj)}{σ:St}{H:Hp}{s:Shared}(I:i9 (ah7 (W2 P w) P w K mg base N qual scope f cd A outer s₀ H₀ E) pins σ H s){b:Addr}{o:Obj}(h:s₀.heap.get? b=some o)(hb:b∉C5 outer):
   b∉C5 (envOfC qual scope s₀.heap.objs.size f cd::outer):=fun hm=>by
 unfold C5 at hm hb;rw[ei9] at hm;have hf:(envOfC qual scope s₀.heap.objs.size f cd).frame=some s₀.heap.objs.size:=rfl;rw[hf] at hm
 rcases ec8.mp hm with z|z
 · have:=Heap.lt_size h;rw[z] at this;exact absurd this (eh8 _)
 · exact hb z
theorem bm3:ct6 (ah7 (W2 P w) P w K mg base N qual scope f cd A outer s₀ H₀ E) E:=by
 intro pins σ H s h' e C vs I hx hE;show wpAny (model P w) _ (leaving _ (.ref e)) _ _ _
 have hin:∀env∈(envOfC qual scope s₀.heap.objs.size f cd::outer),∀b,env.frame=some b->b∈C5 (envOfC qual scope s₀.heap.objs.size f cd::outer):=fun env he b hb=>er3.mpr ⟨env,he,hb⟩
 have hst:s.heap.FunFrames base (envOfC qual scope s₀.heap.objs.size f cd::outer):=I.stack;have hsf:∀b∈C5 (envOfC qual scope s₀.heap.objs.size f cd::outer),H b=none:=I.stkFree;have hub:Un (C5 outer) [] H₀ H s₀.heap s.heap:=I.base
 refine wpAny_leaves_madeW (base:=PySem.W.hideAll s.heap (C5 (envOfC qual scope s₀.heap.objs.size f cd::outer))) (h:=s.heap) I.ok.frames rfl (fun b o q=>PySem.W.of_hideAll _ q) (PySem.W.funFrames_hide hst hin) hx fun h2 t fl tup tn up=> ?_
 have up':s.heap.UpToSlots h2:=(Heap.UpToSlots.of_keeps hx.keeps).trans up
 have kb:∀b o,s₀.heap.get? b=some o->H₀ b=none->b∉C5 outer->(PySem.W.hideAll s.heap (C5 (envOfC qual scope s₀.heap.objs.size f cd::outer))).get? b=some o:=fun b o q n hb=>
   PySem.W.hideAll_get _ (hub.keep b o q n hb (by simp)) (aa7 I q hb)
 have tb:∀b o,s₀.heap.get? b=some o->b∉C5 outer->∃o',(PySem.W.hideAll s.heap (C5 (envOfC qual scope s₀.heap.objs.size f cd::outer))).get? b=some o':=fun b o q hb=>by
   obtain ⟨o',e'⟩:=hub.there b o q (by simp);exact ⟨o',PySem.W.hideAll_get _ e' (aa7 I q hb)⟩
 refine ⟨e,t,C,vs,_,H,rfl,I.os,I.bare,bu2 hub kb tb fl.1 up' (fun b hb o ho=> ?_),I.hok.hide hsf,kb,tb,fl,tup,tn,hE⟩;exact bu3 I b (by show b∈C5 (envOfC qual scope s₀.heap.objs.size f cd::outer);unfold C5 at hb ⊢;rw[ei9];exact ec9 _ hb) o ho
theorem N2 (imp:∀c d H,E c d H->E' c d H):aa4 (W2 P w) (ah7 (W2 P w) P w K mg base N qual scope f cd A outer s₀ H₀ E') E:=by
 intro pins σ H s e s' I h;obtain ⟨a,t,C,vs,B,H',rfl,os,bare,un,hok,kb,tb,fl,tup,tn,hE⟩:=h;show wpAny (model P w) _ (leaving _ (.ref a)) _ _ _;have hub:Un (C5 outer) [] H₀ H s₀.heap s.heap:=I.base;have un':Un (C5 (envOfC qual scope s₀.heap.objs.size f cd::outer)) [] H H' s.heap s'.heap:=un
 have sub:∀b,b∈C5 outer->b∈C5 (envOfC qual scope s₀.heap.objs.size f cd::outer):=fun b hb=>by
   unfold C5 at hb ⊢;rw[ei9];exact ec9 _ hb
 refine wpAny_leaves_onW (L:=s₀.heap.objs.size) I.ok.frames rfl fl fun h2 fl2 up=> ?_
 have kb':∀b o,s₀.heap.get? b=some o->H₀ b=none->b∉C5 outer->B.get? b=some o:=fun b o q n hb=>
   kb b o (hub.keep b o q n hb (by simp)) (hub.free b o q n (by simp)) (aa7 I q hb)
 have tb':∀b o,s₀.heap.get? b=some o->b∉C5 outer->∃o',B.get? b=some o':=fun b o q hb=>by
   obtain ⟨o',e'⟩:=hub.there b o q (by simp);exact tb b o' e' (aa7 I q hb)
 have plain:∀b∈C5 outer,∀o,s'.heap.get? b=some o->∀vs,o.data≠.fields vs:=fun b hb o ho=>by
   obtain ⟨_,o1,ho1,hn⟩:=I.stack.mem (sub b hb);obtain ⟨sl,e1⟩:=un'.slot b o1 ho1 (I.stkFree b (sub b hb)) (sub b hb) (by simp);rw[ho] at e1;cases e1;exact hn
 have unw:Un (C5 outer) [] H₀ H' s₀.heap s'.heap:={
   keep:=fun b o q n hb _=>un'.keep b o (hub.keep b o q n hb (by simp)) (hub.free b o q n (by simp)) (aa7 I q hb) (by simp)
   slot:=fun b o q n hb _=>by
     obtain ⟨sl,e1⟩:=hub.slot b o q n hb (by simp);obtain ⟨sl2,e2⟩:=un'.slot b _ e1 (hub.free b o q n (by simp)) (sub b hb) (by simp);exact ⟨sl2,e2⟩
   free:=fun b o q n _=>by
     obtain ⟨sl,e1⟩:=hub.any q n (by simp);exact un'.free b _ e1 (hub.free b o q n (by simp)) (by simp)
   there:=fun b o q _=>by
     obtain ⟨o',e1⟩:=hub.there b o q (by simp);exact un'.there b o' e1 (by simp)
   tups:=fun b xs q=>un'.tups b xs (hub.tups b xs q)
   frzs:=fun b o u q=>un'.frzs b o u (hub.frzs b o u q)
   tbls:=fun b ps q=>by
     obtain ⟨m1,q1⟩:=hub.tbls b ps q;obtain ⟨m2,q2⟩:=un'.tbls b _ q1
     exact ⟨m1++m2,by rw[q2,Array.append_assoc]⟩}
 exact ⟨a,t,C,vs,B,H',rfl,os.trans I.os,bare,bu2 unw kb' tb' fl2.1 up plain,hok,kb',tb',fl2,tup.of_slots up,tn,imp _ _ _ hE⟩
end
theorem dj1 {K:PySem.W.Frag}{h:Heap}{C:Addr}{bmB:List Value}{newId:String}(X:K.In h)(q:PySem.W.excIn K C bmB newId=true):
   ∃(bm:List Value) (N:Addr) (nm qn:Str) (bs:List Value) (hdct:Bool) (sn:List Str) (sub:List Value) (ab:Bool) (col:Option Bool) (dd:Option Addr) (k0 k1 k2 k3 k5:Option Value) (mN:Str->Option Value),
    K.lookup C=some (excClassObj nm qn C N bs bm hdct sn sub ab col dd k0 k1 k2 k3 k5 newId)/\h.Ns N mN/\mN "__init__"=none/\OwnTail h bmB bm:=by
 unfold PySem.W.excIn at q
 split at q
 · rename_i dd cd sl look
   split at q
   · rename_i C' bm k0 k1 k2 k3 n k5 hmro hsl;rw[ef7,ef7,ef7,ef7,ef7] at q;obtain ⟨⟨⟨⟨⟨q1,q2⟩,q3⟩,q4⟩,q5⟩,q6⟩:=q;have e1:C'=C:=beq_iff_eq.mp q1;have e2:n=newId:=beq_iff_eq.mp q2;subst e1 e2;obtain ⟨nm,bs,mro,ns,qn,hd,sn,sub,ab,col,del⟩:=cd;have e3:mro= .ref C'::bm:=hmro
     have e4:del=false:=by
       cases del with
       |false=>rfl
       |true=>cases q3
     subst e3 e4
     have e5:sl= #[k0,k1,k2,k3,some (.builtin n),k5]:=by
       apply Array.ext'
       exact hsl
     subst e5;exact ⟨bm,ns,nm,qn,bs,hd,sn,sub,ab,col,dd,k0,k1,k2,k3,k5,_,look,.of_isNs (PySem.W.isNs_of_in X q5),PySem.W.nsMap_none_of_in X q5 (beq_iff_eq.mp q6),PySem.W.tail_of_in X q4⟩
   · cases q
 · cases q
abbrev veB:List Value:=[.type "ValueError",.type "Exception",.type "BaseException",.type "object"]
structure Err (K:PySem.W.Frag)(mg:Str->Option Value)(x:Str)(C:Addr):Prop where
 mg:mg x=some (.ref C)
 ex:PySem.W.excIn K C veB "ValueError.__new__"=true
section
variable {X:Cx}
theorem bu4 {x:Str}{C:Addr}{E:XK}{e:Expr}{te:TE}{np cpos pos:Pos}(R:ct6 X E)(hc:X.calm=true)(c:Err X.K X.mg x C)(he:PE X e te)(hg:Gl X x:=by rfl)
   (hs:starEach [e] X.env=(false,eval e X.env)::starEach [] X.env:=by rfl) (hd:(x==("__debug__":Str))=false:=by decide):
   PS X (.Raise (some (.Call (.Name x np) [e] [] cpos)) none pos) (fun _ σ H=>te σ H fun _ H1=>E (.ref C) none H1):=by
 intro pins s σ H D I h;obtain ⟨bm,N,nm,qn,bs,hdct,sn,sub,ab,col,dd,k0,k1,k2,k3,k5,mN,hC,hN,hni,T⟩:=dj1 I.ok.mod.kin c.ex
 refine wpAny_Raise_call_subT (C:=C) (nm:=nm) (q:=qn) (N:=N) (bs:=bs) (bm:=bm) (hdct:=hdct) (sn:=sn) (sub:=sub) (ab:=ab) (col:=col) (dd:=dd) (k0:=k0) (k1:=k1) (k2:=k2) (k3:=k3) (k5:=k5)
   PySem.F.excBase_ValueError (mN:=mN) (T.hasType PySem.F.excBase_ValueError.hasBase) (I.ok.hd hc) (by rw[hs];rfl) hni (aj3 I hg c.mg ⟨rfl,?_⟩ hd)
 rw[hs];refine Calls.evalArgs_plain (Calls.spliced_cons (r6 (he pins s σ H _ I h) fun v s1 ⟨x,H1,I1,rx,q⟩=>Calls.spliced_nil ?_));exact ⟨rfl,(by show 1<=sizeLine;decide),I1.kIn _ _ hC,hN.keeps I1.bk,T.keeps I1.bk,fun h' e' hm=>R pins σ H1 s1 h' e' C _ I1 hm q⟩
end
section
variable {P:Program} {w:World} {K:PySem.W.Frag} {mg:Str->Option Value} {base:Heap}
theorem n5.lift {k:Nat}{f:Addr}{fd:FuncData}{ps:List Str}{sp:Sp}{CX:CXT}(F:n5 P w K mg base y7 k f fd ps sp):n5 P w K mg base CX k f fd ps sp:=
 ⟨F.len,fun A outer s H args us vs Q E hr e0 hb hv hs=>codeAny_mono (F.run A outer s H args us vs Q E hr e0 hb hv hs) fun r s' h=>by
   cases r with
   |error e=>exact (show False from h).elim
   |ok v=>cases v<;>exact h⟩
theorem n5.or {k:Nat}{f:Addr}{fd:FuncData}{ps:List Str}{sp sp':Sp}{CX:CXT}(F:n5 P w K mg base CX k f fd ps sp)(G:n5 P w K mg base CX k f fd ps sp'):n5 P w K mg base CX k f fd ps (fun vs H Q E=>sp vs H Q E\/sp' vs H Q E):=
 ⟨fun vs H Q E h=>h.elim (F.len vs H Q E) (G.len vs H Q E),fun A outer s H args us vs Q E hr e0 hb hv hs=>hs.elim (F.run A outer s H args us vs Q E hr e0 hb hv) (G.run A outer s H args us vs Q E hr e0 hb hv)⟩
theorem x6.okx {x qual:Str}{st:Stmt}{f:Addr}{fd:FuncData}{N ps:List Str}{k:Nat}{sp:Sp}(F:x6 K x qual st f fd)(S:m9 N ps (j6 st))(len:∀vs H Q E,sp vs H Q E->vs.length=ps.length)
   (hbody:∀(cdv:Value) (A:Around) (outer:List Env) (s:Shared) (H:Hp) (vs:List V) (Q:VK) (E:XK),m7 k (A.deeper (envOfC qual (j6 st) s.heap.objs.size f cdv))->sp vs H Q E->
     ∃t,PSs (ah7 (W2 P w) P w K mg base N qual (j6 st) f cdv A outer s H E) (R7 st) t/\t {nx:=fun _ H'=>Q .non H',rt:=Q} (ac1 N vs) H):n5 P w K mg base (W2 P w) (k+1) f fd ps sp:=by
 obtain ⟨oc,od,kV,doc,pm,an,cdv,ct,osl,rfl,lk,hcd⟩:=F.ex
 exact df3 lk hcd S len fun A outer s H vs Q E hr hsp=>hbody cdv A outer s H vs Q E hr hsp
def Q8 (P:Program)(w:World)(K:PySem.W.Frag)(mg:Str->Option Value)(base:Heap)(x:Str)(k:Nat)(ps:List Str)(sp:Sp):Prop:=
 ∃(f:Addr) (fd:FuncData),mg x=some (.ref f)/\PySem.W.keepIn K (.ref f)=true/\L6 K fd ps []/\n5 P w K mg base (W2 P w) k f fd ps sp
end
section
variable {X:Cx} {x:Str} {k:Nat} {ps:List Str} {sp:Sp} {e:Expr} {es:List Expr} {t:TA} {p pos:Pos} {E:XK}
theorem S5 (c:Q8 X.prog X.w X.K X.mg X.base x k ps sp)(hr:m7 k X.A)(hx:aa4 (W2 X.prog X.w) X E)(ha:PA X (e::es) t)(hg:Gl X x:=by rfl)(hdb:(x==("__debug__":Str))=false:=by decide)
   (he:starEach (e::es) X.env=(false,eval e X.env)::starEach es X.env:=by rfl) (hpl:(backTo pos (starEach es X.env)).any (·.1)=false:=by rfl):PE X (.Call (.Name x p) (e::es) [] pos) (cj6 sp [] E t):=by
 obtain ⟨f,fd,h1,h2,h3,h4⟩:=c;exact ce4 h4 hr hg h1 h2 h3 .nil hx ha hdb he hpl
end
end L2
namespace L2
open PySem PySem.Spec PyProof.Rows
theorem A5.get {P:Program}{w:World}{H:Hp}{h:Heap}{a:Addr}{o:HO}(x:A5 P w H h a o):∃u,h.get? a=some u:=by
 cases o with
 |lst xs=>obtain ⟨_,_,_,_,e⟩:=x;exact ⟨_,e⟩
 |tup xs=>obtain ⟨_,_,_,ob,e,_⟩:=x;exact ⟨_,e⟩
 |dK kvs=>obtain ⟨_,_,_,_,o,_,_,e,_⟩:=x;exact ⟨_,e⟩
 |dT kvs=>obtain ⟨_,_,_,_,o,_,_,e,_⟩:=x;exact ⟨_,e⟩
 |set S n=>obtain ⟨o,_,_,_,e,_⟩:=x;exact ⟨_,e⟩
 |ins C dx fs=>obtain ⟨_,_,_,e,_⟩:=x;exact ⟨_,e⟩
 |own y=>obtain ⟨_,e⟩:=x;exact ⟨_,e⟩
 |xd fs=>obtain ⟨_,⟨_,_,_,e,_⟩,_⟩:=x;exact ⟨_,e⟩
 |rng lo hi=>obtain ⟨_,_,_,e⟩:=x;exact ⟨_,e⟩
 |frz ob u=>obtain ⟨e,_⟩:=x;exact ⟨_,e⟩
 |tbl ps=>exact ⟨_,show h.get? a=some _ from x⟩
 |met f y=>exact ⟨_,show h.get? a=some _ from x⟩
 |ext φ=>obtain ⟨_,⟨_,e⟩,_⟩:=x;exact ⟨_,e⟩
def as5 (a C:Addr):HO:= .ext fun h=>∃oe vs,h.get? a=some oe/\oe.cls= .ref C/\oe.data= .fields vs
section
variable {X:Cx} {pins:List (Addr×Obj)} {σ:St} {H H':Hp} {s s':Shared}
theorem dj2 {M:Model}{A:Around}{E:Value->Shared->Prop}{i:Nat}{n:Str}{pos:Pos}{Q:Unit->Shared->Prop}(I:i9 X pins σ H s)(hN:X.N.Nodup)(hi:X.N[i]? =some n)(hk:X.env.kindOf n=some .local)
   (h:∀s',i9 X pins (σ.set i none) H s'->Q () s'):wpAny M A (do bindName X.env n .none;unbindBehindTheSuite X.env n pos) Q E s:=by
 obtain ⟨m,hn,hl⟩:=id I.loc
 have hcls:(X.env.scope.kind== .class||(X.env.scope.kind== .module&&X.env.locals !=X.env.globals))=false:=by rw[I.ok.kind];rfl
 have hiσ:i < σ.length:=by rw[I.len];exact (ec0.mp hi).1
 have cne:=I.cne
 refine wpAny_nameGoes_keeps hk hn hcls fun h' v hn' hs=>h _ ?_
 obtain ⟨oL,_,_,hoL,_⟩:=id hn
 have low:∀b o,X.s₀.heap.get? b=some o->b≠X.env.locals:=fun b o e=>ed2 (ee9 (Heap.lt_size e) I.ok.above)
 refine ⟨I.ok,I.os,I.bare,⟨fun b o e n hb hx=> ?_,fun b o e n hb hx=> ?_,I.base.free,fun b o e hx=> ?_,I.base.tups,I.base.frzs,I.base.tbls⟩,⟨_,hn',fun j y v' e1 e2 e3=> ?_⟩,fun y c e=> ?_,I.free,I.freeC,fun p hp=> ?_,fun b ob e=> ?_,by simpa using I.len⟩
 · exact (hs.2 b (low b o e)).trans (I.base.keep b o e n hb hx)
 · obtain ⟨sl,e1⟩:=I.base.slot b o e n hb hx;exact ⟨sl,(hs.2 b (low b o e)).trans e1⟩
 · obtain ⟨o',e1⟩:=I.base.there b o e hx;exact ⟨o',(hs.2 b (low b o e)).trans e1⟩
 · by_cases hj:j=i
   · subst hj;rw[em2 hiσ] at e2;cases e2
   · rw[en6 (Ne.symm hj)] at e2;obtain ⟨u',r',q⟩:=hl j y v' e1 e2 e3;refine ⟨u',r',?_⟩
     rcases q with ⟨k,e⟩|⟨k,c,e,z⟩
     · refine .inl ⟨k,?_⟩
       have:y≠n:=fun e=>hj (ax6 hN e1 (e▸hi))
       simp [this,e]
     · exact .inr ⟨k,c,e,z.sameBut hs (cne y c e)⟩
 · obtain ⟨w',z⟩:=I.cell y c e;exact ⟨w',z.sameBut hs (cne y c e)⟩
 · obtain ⟨e,n,ne,nf,d⟩:=I.pin p hp;exact ⟨(hs.2 p.1 ne).trans e,n,ne,nf,d⟩
 · refine (I.hok b ob e).stay (fun c w' hc q=>(hs.2 c ?_).trans q) (fun _ q=>q) fun _ _ q=>q
   rintro rfl
   rcases hc with rfl|hc
   · rw[I.free] at e;cases e
   · rw[I.free] at hc;cases hc
abbrev Cx.marked (X:Cx)(a:Addr):Cx:={X with A:=X.A.mark (some (.ref a)),calm:=false,xe:=fun _ _=>False}
theorem i9.mark (I:i9 X pins σ H s)(a:Addr):i9 (X.marked a) pins σ H s:=
 ⟨⟨I.ok.mod,I.ok.kind,I.ok.glob,I.ok.blt,I.ok.above,I.ok.inj,I.ok.has,I.ok.cab,(fun z=>nomatch z),I.ok.frames,I.ok.stk,I.ok.exf,I.ok.bs,I.ok.bsz,I.ok.noex,I.ok.exfs,I.ok.funs,I.ok.frf⟩,I.os,I.bare,I.base,I.loc,I.cell,I.free,I.freeC,I.pin,I.hok,I.len⟩
theorem i9.unmark {a:Addr}(ok:X.Ok)(I:i9 (X.marked a) pins σ H s):i9 X pins σ H s:=
 ⟨ok,I.os,I.bare,I.base,I.loc,I.cell,I.free,I.freeC,I.pin,I.hok,I.len⟩
theorem i9.trackNew {a:Addr}{o:HO}(I:i9 X pins σ H s)(hn:H a=none)(h0:X.s₀.heap.get? a=none)(hL:a≠X.env.locals)(hc:∀x c,X.env.cells.lookup x=some c->c≠a)(hp:∀p∈X.pn++pins,p.1≠a)(new:A5 X.prog X.w (i8 H a o) s.heap a o):
   i9 X pins σ (i8 H a o) s:=by
 refine ⟨I.ok,I.os,I.bare,⟨I.base.keep,I.base.slot,fun b o' e n hx=> ?_,I.base.there,fun b xs e=> ?_,fun b o' u e=> ?_,fun b ps e=> ?_⟩,I.loc,I.cell,?_,fun x c e=> ?_,fun p hq=> ?_,I.hok.track hn new,I.len⟩
 · rw[i6 (fun z=>by rw[z,h0] at e;cases e)];exact I.base.free b o' e n hx
 · have:=I.base.tups b xs e;rw[i6 (i4 this hn)];exact this
 · have:=I.base.frzs b o' u e;rw[i6 (i4 this hn)];exact this
 · obtain ⟨m,this⟩:=I.base.tbls b ps e;exact ⟨m,by rw[i6 (i4 this hn)];exact this⟩
 · rw[i6 (Ne.symm hL)];exact I.free
 · rw[i6 (hc x c e)];exact I.freeC x c e
 · obtain ⟨e,n,ne,nf,d⟩:=I.pin p hq;exact ⟨e,by rw[i6 (hp p hq)];exact n,ne,nf,d⟩
end
def PX (X:Cx)(st:List Stmt)(t:XK->TS):Prop:=
 ∀(pins:List (Addr×Obj)) (s:Shared) (σ:St) (H:Hp) (D:T9) (E:XK) (E1:Value->Shared->Prop),i9 X pins σ H s->
  (∀(H1:Hp) (s1:Shared) (e:Value) (s':Shared),i9 X pins σ H1 s1->W2 X.prog X.w X.stack H1 s1 E e s'->E1 e s')->t E D σ H->wpAny (model X.prog X.w) X.A (execs st X.env) (SP X pins D) E1 s
section
variable {X:Cx} {x:Str} {k:Nat} {ps:List Str} {sp:Sp} {e:Expr} {es:List Expr} {t:TA} {p pos:Pos}
theorem PA.any (h:PA X.nox es t)(E1:Value->Shared->Prop):PA (X.wish E1) es t:=fun pos pins s σ H Q I hw=>
 wpAny_mono (h pos pins s σ H Q (I.unwish.wish _) hw) (fun _ _ ⟨v,H',I',r,q⟩=>⟨v,H',I'.unwish.wish E1,r,q⟩) fun _ _ z=>False.elim z
end
section
variable {X:Cx}
def dj3 (K:PySem.W.Frag)(T:Addr)(i:Nat)(ts:TS)(D:T9)(σ:St):XK:=fun c _ H'=>
 ∃C,c= .ref C/\PySem.W.exmOne K (.ref C) (.ref T)=some true/\∀a,H' a=none->ts {nx:=fun σ' H''=>D.nx (σ'.set i none) H'',rt:=fun _ _=>False} (σ.set i (some (.ref a))) (i8 H' a (as5 a C))
theorem dp9 {body:List Stmt}{x n:Str}{T:Addr}{i:Nat}{np hp pos:Pos}{b₀:Stmt}{suite:List Stmt}{tb:XK->TS}{ts:TS}(hb:PX X body tb)(hm:X.mg x=some (.ref T))(hN:X.N.Nodup)(hi:X.N[i]? =some n)(hk:X.env.kindOf n=some .local)
   (hsu:∀a,PSs (X.marked a) (b₀::suite) ts) (hst:X.stack=X.env::X.outer:=by rfl) (hfr:X.env.frame=some X.env.locals:=by rfl) (hex0:X.ex=[]:=by rfl) (hg:Gl X x:=by rfl) (hdb:(x==("__debug__":Str))=false:=by decide) (hf:X.fn n=true\/X.env.scope.names.lookup n=some .local:=by first|exact .inl rfl|exact .inr rfl|assumption):
   PS X (.Try body [.ExceptHandler (some (.Name x np)) (some n) (b₀::suite) hp] [] [] pos) (fun D σ H=>tb (dj3 X.K T i ts D σ) D σ H):=by
 intro pins s σ H D I h;refine wpAny_Try_except (wpAny_mono (hb pins s σ H D _ (fun e s₁=>wpAny (model X.prog X.w) X.A (noteFrame e X.env) (fun _ s₂=>wpAny (model X.prog X.w) X.A (setFlight e none) (fun _ s₃=>wpAny (model X.prog X.w) X.A (handleBy e X.env [.ExceptHandler (some (.Name x np)) (some n) (b₀::suite) hp]) (SP X pins D) X.xe s₃) X.xe s₂) X.xe s₁) I (fun H1 s1 e s' I1 hcx=> ?_) h) (fun f s1 q=> ?_) fun _ _ z=>z)
 · obtain ⟨a,t,C,vs,B,H',rfl,os,bare,un,hok,kb,tb',fl,tup,tn,C',hCe,hex,hts⟩:=hcx;cases hCe;rw[hst] at un fl kb tb'
   have hframes:X.A.frames=some (X.env::X.outer):=by rw[<-hst];exact I1.ok.frames
   have plain:∀b∈C5 (X.env::X.outer),∀o,s'.heap.get? b=some o->∀vs,o.data≠.fields vs:=fun b hb o ho=>by
     obtain ⟨_,o',ho',hn⟩:=fl.2.2.1.mem hb;rw[ho] at ho';cases ho';exact hn
   have notB:B.get? a=none:=fl.2.1
   have notF:a∉C5 (X.env::X.outer):=fun hm=>by
     obtain ⟨oe,ws,he,_,hd,_⟩:=fl.first;exact plain a hm oe he ws hd
   have new1:s1.heap.get? a=none:=by
     cases q:s1.heap.get? a with
     |none=>rfl
     |some o=>
      obtain ⟨o',e'⟩:=tb' a o q notF;rw[notB] at e';cases e'
   have new0:X.s₀.heap.get? a=none:=by
     cases q:X.s₀.heap.get? a with
     |none=>rfl
     |some o=>
      by_cases hx:a∈X.ex
      · rw[hex0] at hx;simp at hx
      · obtain ⟨o',e'⟩:=I1.base.there a o q hx;rw[new1] at e';cases e'
   have hHa:H' a=none:=by
     cases q:H' a with
     |none=>rfl
     |some o=>obtain ⟨u,hu⟩:=(hok a o q).get;rw[notB] at hu;cases hu
   refine wpAny_looks_onW hframes hfr fl fun h₄ held₄ up₄=> ?_
   refine wpAny_landsW held₄ fun h₅ fl₅ up₅=> ?_
   have inv:∀h,B.StaysIn h->s'.heap.UpToSlots h->i9 X pins σ H' {s' with heap:=h}:=fun h st up=>
     I1.call' (ch:=[]) (s':={s' with heap:=h}) os (by rw[hst];exact bu2 un kb tb' st up plain) (hok.kept st) bare (fun b z=>absurd z (by simp))
   have I5:=inv h₅ fl₅.1 (up₄.trans up₅);refine wpAny_handleBy_cons (codeAny_handlers_test (aj3 (X:=X.marked a) (E:=_) (I5.mark a) hg hm ?_ hdb)) (by intro q;cases q);obtain ⟨ob,hob,hobc⟩:=fl₅.there;have LT:PySem.W.Looks (model X.prog X.w) h₅ (typeOf (.ref a)) (.ref C):=hobc▸(PySem.W.Looks.ld hob).andThen .now;refine PySem.W.exm_one (M:=model X.prog X.w) (h:=h₅) I5.kIn LT hex _ _ _ _ (fun _ _ q=>q) ?_;refine codeAny_handlers_suite_as ?_
   refine lands_againW fl₅ fun h₆ fl₆ up₆=> ?_
   have I6:=inv h₆ fl₆.1 ((up₄.trans up₅).trans up₆)
   have hLa:a≠X.env.locals:=fun z=>notF (by unfold C5;rw[ei9,hfr];rw[z];exact ec5)
   have hca:∀y c,X.env.cells.lookup y=some c->c≠a:=fun y c e z=>by
     obtain ⟨v,o,ho,_⟩:=I1.cell y c e;rw[z,new1] at ho;cases ho
   have hpa:∀q∈X.pn++pins,q.1≠a:=fun q hq z=>by
     obtain ⟨e,_⟩:=I1.pin q hq;rw[z,new1] at e;cases e
   obtain ⟨oe,ws,he6,hc6,hd6,_⟩:=fl₆.first;have I7:i9 X pins σ (i8 H' a (as5 a C)) {s' with heap:=h₆}:=I6.trackNew hHa new0 hLa hca hpa ⟨⟨oe,ws,he6,hc6,hd6⟩,⟨oe,he6⟩,fun h1 h2 ⟨o1,v1,q1,q2⟩ st=>⟨o1,v1,st o1 q1,q2⟩⟩;have hts':=hts a hHa;refine al2 I7 hN hi (.inl hk) (show w4 (.ref a) (.ref a) from rfl) (fun s2 I8=> ?_) hf
   refine wpAny_mono (hsu a pins s2 _ _ _ (I8.mark a) hts') (fun f s3 q=> ?_) fun _ _ z=>False.elim z
   cases f with
   |next=>
    obtain ⟨σ',H'',I9,q⟩:=q
    exact dj2 (I9.unmark I1.ok) hN hi hk fun s4 I10=>show SP X pins D .next s4 from ⟨_,_,I10,q⟩
   |ret v=>obtain ⟨_,_,_,_,_,q⟩:=q;exact q.elim
   |brk=>obtain ⟨_,_,_,q⟩:=q;exact q.elim
   |cont=>obtain ⟨_,_,_,q⟩:=q;exact q.elim
 · cases f with
   |next=>exact wpAny_execs_nil q
   |ret v=>exact q
   |brk=>exact q
   |cont=>exact q
end
end L2
namespace L2
open PySem PySem.Spec PyProof.Rows PySem.W PySem.Builtin PySem.Builtin.ObjectAttr PySem.Builtin.Getset_descriptor
section
variable {prog:Program} {w:World} {A:Around} {E:Value->Shared->Prop} {s:Shared} {K:PySem.W.Frag} {a C:Addr}
structure ay9 (K:PySem.W.Frag)(C:Addr):Prop where
 ga:PySem.W.findIn K (.ref C) "__getattribute__"=some (some (.builtin "BaseException.__getattribute__"))
 hook:PySem.W.findIn K (.ref C) "__getattr__"=some none
 cls:PySem.W.findIn K (.ref C) "__class__"=some (some (.builtin "object.__class__"))
 get:PySem.W.specialIn K (.builtin "object.__class__") "__get__"=some (some (.builtin "getset_descriptor.__get__"))
 tak:PySem.W.takesIn K (.builtin "object.__class__")=some true
 bex:PySem.W.mroIn K C (.type "BaseException")=some true
 obj:PySem.W.mroIn K C (.type "object")=some true
 isc:∃oc,K.lookup C=some oc/\∃cd,oc.data= .cls cd
theorem bo4 {tp:Value}{R:Result->Shared->Prop}(X:K.In s.heap)(L0:PySem.W.Looks (model prog w) s.heap (typeOf (.ref a)) (.ref C))(hm:PySem.W.mroIn K C (.type "object")=some true)
   (h:R (.ok (.ret (.ref C))) s):codeAny (model prog w) A (.call (.builtin "getset_descriptor.__get__") ⟨[.builtin "object.__class__",.ref a,tp],[]⟩) R s:=by
 obtain ⟨hh,g,dr,t,os⟩:=s;have L1:=looks_mroIn (M:=model prog w) X hm;refine codeAny_call_builtin KF.slot_gs.plain KF.entry_gs (KF.slot_gs.check _ _ _ _ _ _ _ _ KF.type_class (KF.args_gs _ _ _) ?_);unfold Builtin.«getset_descriptor.__get__» descrGet;rw[dga_obj];refine wpAny_bind (wpAny_pure ?_);unfold descrGetter descrCheckInstance descrNameAndClass isInstance;simp only[KF.owner_class]
 repeat lk
 refine ⟨Code.quiet_builtin _ (by decide+kernel),codeAny_builtin KF.entry_class ?_⟩;unfold Builtin.«object.__class__» shownTypeOf
 repeat lk
 exact h
theorem ct7 {M:Model}{nameV:Value}{Q:Unit->Shared->Prop}(X:K.In s.heap)(L0:PySem.W.Looks M s.heap (typeOf (.ref a)) (.ref C))(hm:PySem.W.mroIn K C (.type "BaseException")=some true)
   (hq:Q () s):wpAny M A (checkBuiltinCall "BaseException.__getattribute__" ⟨[.ref a,nameV],[]⟩) Q E s:=by
 obtain ⟨hh,g,dr,t,os⟩:=s;have L1:=looks_mroIn (M:=M) X hm
 have hk:builtinKind "BaseException.__getattribute__"=some .slot:=by decide+kernel
 have hsplit:splitId "BaseException.__getattribute__"=some ("BaseException","__getattribute__"):=by decide+kernel
 have ha:=F.args_bexc_ga (.ref a) nameV;simp only[checkBuiltinCall,hk,hsplit];unfold isInstance
 repeat (first|lk|wp_step)
 exact hq
theorem ct8 {tk:Tok}{Q:Fin->Shared->Prop}(X:K.In s.heap)(L0:PySem.W.Looks (model prog w) s.heap (typeOf (.ref a)) (.ref C))(I:ay9 K C)(hq:Q (.done (.ret (.ref C))) s):
   wpAny (model prog w) A (Builtin.«object.__getattribute__» ⟨[.ref a,.str "__class__" tk],[]⟩) Q E s:=by
 obtain ⟨hh,g,dr,t,os⟩:=s;have L1:=looks_findIn (M:=model prog w) X I.cls;have L2:=looks_specialIn (M:=model prog w) X I.get;have L3:=looks_takesIn (M:=model prog w) X I.tak;unfold Builtin.«object.__getattribute__»
 repeat lk
 refine wpAny_run (bo4 X L0 I.obj ?_)
 repeat (first|exact hq|lk)
theorem bh0 {Q:Option Value->Shared->Prop}(X:K.In s.heap)(L0:PySem.W.Looks (model prog w) s.heap (typeOf (.ref a)) (.ref C))(I:ay9 K C)(h:Q (some (.ref C)) {s with toks:=s.toks+1}):
   wpAny (model prog w) A (getAttr? (.ref a) "__class__") Q E s:=by
 obtain ⟨hh,g,dr,t,os⟩:=s;have L1:=looks_findIn (M:=model prog w) X I.ga;have L2:=looks_findIn (M:=model prog w) X I.hook;have hb:=PySem.F.attrBase_ValueError.ga.bind (.ref a);unfold getAttr? getAttrBy? getAttrBy;refine wpAny_bind (wpAny_mkText (wpAny_bind (wpAny_attempt (wpAny_holding (wpAny_bind (L0.at (wpAny_bind (L1.at ?_))))))))
 dsimp only
 rw[if_neg (show ¬((onTheHeap (Value.ref C)&&Value.builtin "BaseException.__getattribute__"==Value.builtin "object.__getattribute__")=true) from by
   rw[show (Value.builtin "BaseException.__getattribute__"==Value.builtin "object.__getattribute__")=false from by decide+kernel,Bool.and_false];exact ed9)]
 unfold getAttrByItsOwn hookBefore;refine wpAny_bind ?_;rw[if_pos (show onTheHeap (Value.ref C)=true from rfl)];refine L2.at ?_;refine wpAny_bind (wpAny_attempt (wpAny_holding ?_));unfold callGetattribute;rw[if_neg (by simp)];unfold boundAndCalled;rw[hb];refine wpAny_bind (wpAny_pure ?_);refine wpAny_call (codeAny_call_builtin PySem.F.attrBase_ValueError.ga.plain F.entry_bexc_ga (ct7 X L0 I.bex (ct8 X L0 I ?_)));refine handed_on (M:=model prog w) rfl ?_;exact wpAny_pure h
theorem bu5 (I:ay9 K C):PySem.W.KitX K (.ref a) (.ref C) (fun h=>∃oe vs,h.get? a=some oe/\oe.cls= .ref C/\oe.data= .fields vs) where
 ty:=fun M h _ ⟨oe,vs,h1,h2,_⟩=>h2▸(PySem.W.Looks.ld h1).andThen .now
 it:=fun M h X _=>by
   obtain ⟨oc,h1,cd,h2⟩:=I.isc;obtain ⟨c1,c2,c3,c4⟩:=oc
   dsimp only at h2
   subst h2;intro A' Q' E' s' k q;unfold isType loadHead;exact wpAny_bind (wpAny_loadPart (k _ _ (X _ _ h1)) (wpAny_pure q))
 ne:=fun h tp dd its n sl X htp=>by
   obtain ⟨oc,h1,cd,h2⟩:=I.isc
   refine el4.mpr fun q=> ?_
   have e:C=tp:=Value.ref.inj (beq_iff_eq.mp q);subst e;have z:=(X _ _ h1).symm.trans htp;cases z;cases h2
 ca:=fun {prog w A E Q s} X ⟨oe,vs,h1,h2,_⟩ k=>bh0 X (h2▸(PySem.W.Looks.ld h1).andThen .now) I k
end
section
variable {X:Cx}
def df8 (K:PySem.W.Frag):List V->Hp->VK->Prop:=fun xs H Q=>∃a C c u b,xs=[.ref a,c]/\((∃D,c= .ref D/\u=Value.ref D)\/(∃n,c= .ty n/\u=Value.type n))/\H a=some (as5 a C)/\ay9 K C/\PySem.W.kitOne K (.ref C) u=some b/\Q (.bl b) H
theorem ct9:K0 X (.builtin "isinstance") (df8 X.K):=by
 intro pins s σ H xs us Q I r h;obtain ⟨a,C,c,u,b,rfl,hc,hH,ei,hk,q⟩:=h;obtain ⟨u1,u2,rfl,r1,r2⟩:=al5 r;cases (show u1=Value.ref a from r1)
 have e2:u2=u:=by
   rcases hc with ⟨D,rfl,rfl⟩|⟨n,rfl,rfl⟩
   · exact r2
   · exact r2
 subst e2;have p:=(show A5 X.prog X.w H s.heap a (as5 a C) from I.hok a _ hH).1
 exact PySem.W.kia_one (bu5 ei) I.kIn p hk (fun z=>nomatch z) fun tk=>⟨.bl b,H,I.tok tk,rfl,q⟩
theorem W3 {a b:Expr}{ta:TA}{p pos:Pos}(hm:X.mg "isinstance"=none)(ha:PA X [a,b] ta)(hg:Gl X "isinstance":=by rfl)
 (he:starEach [a,b] X.env=(false,eval a X.env)::starEach [b] X.env:=by rfl) (hpl:(backTo pos (starEach [b] X.env)).any (·.1)=false:=by rfl):
 PE X (.Call (.Name "isinstance" p) [a,b] [] pos) (V9 (df8 X.K) ta):=K7 ct9 hg hm ay2 ha (by decide) (by decide) he hpl
theorem dj4:bootBuiltins "ValueError"=some (.type "ValueError"):=by decide+kernel
theorem dj5 {p:Pos}(hm:X.mg "ValueError"=none)(hg:Gl X "ValueError":=by rfl):PE X (.Name "ValueError" p) (tC (.ty "ValueError")):=aj4 hg hm dj4 rfl
end
theorem dj6 {K:PySem.W.Frag}{C D:Addr}{b:Bool}(h1:PySem.W.isClsIn K D=true)(h2:PySem.W.typeIn K (.ref D)=some (.type "type"))(h3:PySem.W.mroIn K C (.ref D)=some b)(hs:C=D->b=true):PySem.W.kitOne K (.ref C) (.ref D)=some b:=by
 unfold PySem.W.kitOne
 by_cases e:C=D
 · rw[if_pos (by rw[e];exact beq_self_eq_true _),hs e]
 · rw[if_neg (fun q=>e (Value.ref.inj (beq_iff_eq.mp q)))];unfold PySem.W.kitCls
   dsimp only
   rw[if_pos (by rw[ef7];exact ⟨h1,by rw[h2];exact beq_self_eq_true _⟩)];exact h3
theorem dq0 {K:PySem.W.Frag}{C:Addr}(h3:PySem.W.mroIn K C (.type "ValueError")=some true):PySem.W.kitOne K (.ref C) (.type "ValueError")=some true:=by
 unfold PySem.W.kitOne;rw[if_neg (fun q=>by cases beq_iff_eq.mp q)];unfold PySem.W.kitCls
 dsimp only
 rw[if_pos (by decide+kernel)];exact h3
theorem cf9 {K:PySem.W.Frag}{C T:Addr}{b:Bool}(h0:PySem.W.mroIn K T (.type "BaseException")=some true)(h1:PySem.W.isClsIn K T=true)(h2:PySem.W.typeIn K (.ref T)=some (.type "type"))(h3:PySem.W.mroIn K C (.ref T)=some b):PySem.W.exmOne K (.ref C) (.ref T)=some b:=by
 unfold PySem.W.exmOne;rw[if_pos (show (PySem.W.subIn K (.ref T) (.type "BaseException")==some true)=true from beq_iff_eq.mpr h0)];unfold PySem.W.kitCls
 dsimp only
 rw[if_pos (by rw[ef7];exact ⟨h1,by rw[h2];exact beq_self_eq_true _⟩)];exact h3
theorem dj7 {K:PySem.W.Frag}{C:Addr}(ga:PySem.W.findIn K (.ref C) "__getattribute__"=some (some (.builtin "BaseException.__getattribute__")))(hook:PySem.W.findIn K (.ref C) "__getattr__"=some none)(cls:PySem.W.findIn K (.ref C) "__class__"=some (some (.builtin "object.__class__")))
   (get:PySem.W.specialIn K (.builtin "object.__class__") "__get__"=some (some (.builtin "getset_descriptor.__get__"))) (tak:PySem.W.takesIn K (.builtin "object.__class__")=some true) (bex:PySem.W.mroIn K C (.type "BaseException")=some true) (obj:PySem.W.mroIn K C (.type "object")=some true) (isc:PySem.W.isClsIn K C=true):ay9 K C:=
 ⟨ga,hook,cls,get,tak,bex,obj,by
   obtain ⟨cd,h⟩:=el6.mp (show (PySem.W.clsIn K C).isSome=true from isc);unfold PySem.W.clsIn at h
   split at h
   · rename_i ho;exact ⟨_,ho,_,rfl⟩
   · cases h⟩
structure bu6 (K:PySem.W.Frag)(mg:Str->Option Value)(T:Addr)(cs:List (Str×Addr)):Prop where
 top:mg "TurnError"=some (.ref T)
 err:∀p∈cs,Err K mg p.1 p.2
 inst:∀p∈cs,ay9 K p.2
 exm:∀p∈cs,PySem.W.exmOne K (.ref p.2) (.ref T)=some true
 ve:∀p∈cs,PySem.W.kitOne K (.ref p.2) (.type "ValueError")=some true
 pair:∀p∈cs,∀q∈cs,PySem.W.kitOne K (.ref p.2) (.ref q.2)=some (decide (p.1=q.1))
 exq:∀p∈cs,∀q∈cs,PySem.W.exmOne K (.ref p.2) (.ref q.2)=some (decide (p.1=q.1))
end L2
namespace L2
open PySem PySem.Spec PyProof.Rows
section
variable {X:Cx}
def cg0:V->List V->Hp->VK->Prop:=fun x vs H Q=>∃(l:Addr) (ns:List V) (v:V),x= .ref l/\vs=[v]/\P6 v=true/\ns.all P6=true/\H l=some (.lst ns)/\Q (.int ((ns.countP fun i=>eqV i v:Nat):Int)) H
theorem cu0:MtM X "list.count" cg0:=by
 intro pins s σ H x vs v us Q I rx rv h;obtain ⟨l,ns,k,rfl,rfl,fk,fl,hH,q⟩:=h;cases rx
 cases rv with
 |cons rk rr=>
 rename_i u _;cases rr;obtain ⟨z,its,n,r,hl,e⟩:=I.lstM hH
 refine call_meets F.slot_list_count ⟨_,e,rfl⟩ F.entry_list_count (F.args_list_count_2 _ _)
   (SeqAt.list_countAt l its.toArray n none #[] u (eqU k)) ⟨e,fun y hy=> ?_,?_⟩
 · exact al7 rk fk r fl y (by simpa using hy)
 · have cnt:∀(ms:List V) (us:List Value),o8 ms us->ms.all P6=true->us.countP (eqU k)=ms.countP fun i=>eqV i k:=by
     intro ms
     induction ms with
     |nil=>intro us h _;cases h;rfl
     |cons m ms ih=>
      intro us h f;rw[List.all_cons,ef7] at f
      cases h with
      |cons h1 h2=>rw[eo1,eo1,ih _ h2 f.2,bb7 h1 f.1]
   rw[show its.toArray.toList.countP (eqU k)=ns.countP fun i=>eqV i k from cnt ns its r fl];exact ⟨.int _,H,I.tok _,⟨_,rfl⟩,q⟩
def cg1:V->List V->Hp->VK->Prop:=fun x vs H Q=>∃(l:Addr) (ns:List V) (v:V) (j:Nat),x= .ref l/\vs=[v]/\P6 v=true/\ns.all P6=true/\H l=some (.lst ns)/\(∃y,ns[j]? =some y/\eqV y v=true)/\(∀i y,i < j->ns[i]? =some y->eqV y v=false)/\ns.length<=1000/\Q (.int j) H
theorem cu1:MtM X "list.index" cg1:=by
 intro pins s σ H x vs v us Q I rx rv h;obtain ⟨l,ns,k,j,rfl,rfl,fk,fl,hH,⟨y,hj,hy⟩,hno,hz,q⟩:=h;cases rx
 cases rv with
 |cons rk rr=>
 rename_i u _;cases rr;obtain ⟨z,its,n,r,hl,e⟩:=I.lstM hH;have hjl:j < ns.length:=(ec0.mp hj).1
 have hjI:j < its.length:=by omega
 have at_:∀m (hm:m < its.length),eqU k its[m]=eqV (ns[m]'(by omega)) k:=fun m hm=>by
   have e1:ns[m]? =some (ns[m]'(by omega)):=eb9 (by omega);obtain ⟨u1,z1,q1⟩:=r.get e1;rw[eb9 hm] at z1;rw[Option.some.inj z1];exact bb7 q1 (ei6.mp fl _ (ee5 _))
 refine call_meets F.slot_list_index ⟨_,e,rfl⟩ F.entry_list_index (F.args_list_index_2 _ _)
   (SeqAt.list_indexAt l its.toArray n none #[] u (eqU k) j (by simpa using hjI) (by omega) ?_ ?_) ⟨e,fun y hy=> ?_,?_⟩
 · have:eqU k its.toArray[j]=_:=at_ j hjI;rw[this,<-hy,(ec0.mp hj).2]
 · intro m hm hmj
   have hm':m < its.length:=by simpa using hm
   have:eqU k its.toArray[m]=_:=at_ m hm';rw[this];exact hno m _ hmj (eb9 (by omega))
 · exact al7 rk fk r fl y (by simpa using hy)
 · exact ⟨.int j,H,I.tok _,⟨_,rfl⟩,q⟩
theorem cu2 (K:PySem.W.Frag){o e:Expr}{to:TE}{t:TA}{apos pos:Pos}(ho:PE X o to)(ha:PA X [e] t)(hK:X.K=K:=by rfl)
   (hbase:attributeBase o "count" X.env (eval o X.env)=eval o X.env:=by rfl)
   (hfew:((backTo pos (starEach [e] X.env)).all (fun x=> !x.1)&&(backToKw pos (keywordEach [] X.env)).all (fun x=>x.1.isSome)
     &&decide ([e].length+([]:List Keyword).length+(if ([]:List Keyword).isEmpty then 0 else 1) < 30))=true:=by rfl)
   (hline:(apos.endLine==pos.line)=true:=by rfl) (hs:starEach [e] X.env=(false,eval e X.env)::starEach [] X.env:=by rfl) (hplain:(backTo pos (starEach [] X.env)).any (·.1)=false:=by rfl):
   PE X (.Call (.Attribute o "count" apos) [e] [] pos) (tBM K "list" cg0 to t):=by
 subst hK;exact W8 PySem.F.plainAttrs_list PySem.F.slot_list_count PySem.F.type_list_count cu0 ho ha hbase hfew hline hs hplain
theorem cu3 (K:PySem.W.Frag){o e:Expr}{to:TE}{t:TA}{apos pos:Pos}(ho:PE X o to)(ha:PA X [e] t)(hK:X.K=K:=by rfl)
   (hbase:attributeBase o "index" X.env (eval o X.env)=eval o X.env:=by rfl)
   (hfew:((backTo pos (starEach [e] X.env)).all (fun x=> !x.1)&&(backToKw pos (keywordEach [] X.env)).all (fun x=>x.1.isSome)
     &&decide ([e].length+([]:List Keyword).length+(if ([]:List Keyword).isEmpty then 0 else 1) < 30))=true:=by rfl)
   (hline:(apos.endLine==pos.line)=true:=by rfl) (hs:starEach [e] X.env=(false,eval e X.env)::starEach [] X.env:=by rfl) (hplain:(backTo pos (starEach [] X.env)).any (·.1)=false:=by rfl):
   PE X (.Call (.Attribute o "index" apos) [e] [] pos) (tBM K "list" cg1 to t):=by
 subst hK;exact W8 PySem.F.plainAttrs_list PySem.F.slot_list_index PySem.F.type_list_index cu1 ho ha hbase hfew hline hs hplain
end
end L2
namespace L2
open PySem PySem.Spec PyProof.Rows
theorem bu7 {K:Type}:∀{ts:List Str} {us:List Value},o8 (ts.map V.str) us->∃l:List (Str×Tok),us=strValues l/\l.map (·.1)=ts
 |[],us,h=>by cases h;exact ⟨[],rfl,rfl⟩
 |t::ts,us,h=>by
  cases h with
  |cons r h=>
   obtain ⟨l,rfl,e⟩:=bu7 (K:=K) h;obtain ⟨k,rfl⟩:=r;exact ⟨(t,k)::l,rfl,by rw[eg2,e]⟩
theorem az0:∀(l:List (Str×Tok)),o8 ((l.map (·.1)).map V.str) (strValues l)
 |[]=> .nil
 |p::l=> .cons ⟨p.2,rfl⟩ (az0 l)
section
variable {X:Cx} {p pos apos:Pos} {e o:Expr} {es:List Expr} {t:TA} {to:TE}
theorem K4 (hm:X.mg "str"=none)(ha:PA X [e] t)(hg:Gl X "str":=by rfl)(he:starEach [e] X.env=(false,eval e X.env)::starEach [] X.env:=by rfl):
   PE X (.Call (.Name "str" p) [e] [] pos) (V9 (fun xs H Q=>∃i,xs=[.int i]/\i.natAbs.log2 < 1920/\Q (.str (toString i)) H) t):=
 W0 br1 hg hm bm2 ha (by decide) (by decide) he rfl
def df9 (K:PySem.W.Frag):V->List V->Hp->VK->Prop:=fun x xs H Q=>∃sep a ts,x= .str sep/\xs=[.ref a]/\i5 K H a (ts.map V.str)/\JoinOk sep ts=true/\Q (.str (Txt.join sep ts)) H
theorem dj8:MtR X "str.join" (df9 X.K):=by
 intro pins s σ H x vs v us Q I rx rv h;obtain ⟨sep,a,ts,rfl,rfl,hx,ok,q⟩:=h;obtain ⟨k,rfl⟩:=rx;obtain ⟨u,rfl,ru⟩:=rv.one;cases ru;obtain ⟨its,r,ht,hz⟩:=I.list hx;obtain ⟨l,rfl,el⟩:=bu7 (K:=Unit) r
 exact SC.join ht.isList el ok fun t' k'=>⟨.str _,H,I.tok k',⟨_,rfl⟩,q⟩
theorem ak1 (ho:PE X o to)(ha:PA X [e] t)
   (hbase:attributeBase o "join" X.env (eval o X.env)=eval o X.env:=by rfl)
   (hfew:((backTo pos (starEach [e] X.env)).all (fun x=> !x.1)&&(backToKw pos (keywordEach [] X.env)).all (fun x=>x.1.isSome)
     &&decide ([e].length+([]:List Keyword).length+(if ([]:List Keyword).isEmpty then 0 else 1) < 30))=true:=by rfl)
   (hline:(apos.endLine==pos.line)=true:=by rfl) (hs:starEach [e] X.env=(false,eval e X.env)::starEach [] X.env:=by rfl) (hplain:(backTo pos (starEach [] X.env)).any (·.1)=false:=by rfl):
   PE X (.Call (.Attribute o "join" apos) [e] [] pos) (tBM X.K "str" (df9 X.K) to t):=
 W8 PySem.F.plainAttrs_str PySem.F.slot_str_join PySem.F.type_str_join dj8 ho ha hbase hfew hline hs hplain
def cu4:V->List V->Hp->VK->Prop:=fun x xs H Q=>∃y sep,x= .str y/\xs=[.str sep]/\(sep.length==0)=false/\y.length<=sizeLine/\(Builtin.Str.partsBetween y (Builtin.Str.occurrences y sep 0 y.length (y.length+1)) sep.length).length<=sizeLine/\(Txt.split y sep).length<=sizeLine/\
 ∀l,H l=none->Q (.ref l) (i8 H l (.lst ((Txt.split y sep).map V.str)))
theorem db6:MtR X "str.split" cu4:=by
 intro pins s σ H x vs v us Q I rx rv h;obtain ⟨y,sep,rfl,rfl,h0,z1,z2,z3,q⟩:=h;obtain ⟨k,rfl⟩:=rx;obtain ⟨u,rfl,ru⟩:=rv.one;obtain ⟨k2,rfl⟩:=ru
 have fin:∀(l:List (Str×Tok)) (tk:Nat),l.map (·.1)=Txt.split y sep->∃(z:V) (H':Hp),i9 X pins σ H' {s with toks:=tk,heap:=s.heap.push {cls:= .type "list",data:= .seq (strValues l).toArray}}/\w4 z (.ref s.heap.objs.size)/\Q z H':=fun l tk e=>by
   refine ⟨.ref s.heap.objs.size,_,I.laid (t':=tk) (o:= .lst ((Txt.split y sep).map V.str)) (fun b ob g=>Heap.get?_push_of_some _ g) (ec6 _) ?_,rfl,q _ (I.hok.fresh (ec6 _))⟩;exact ⟨by rw[eb8];exact z3,_,0,by rw[<-e];exact az0 l,Heap.get?_push_size _ rfl⟩
 by_cases c1:(decide (y.length < sep.length)||decide (Builtin.Str.strKind y < Builtin.Str.strKind sep))=true
 · refine call_meets F.slot_str_split (typeIs_str _ _ _) F.entry_str_split (F.args_str_split_2 _ _) (meets_str_split_cannot_occur y sep k k2 c1) ?_;exact fin [(y,k)] s.toks (if_pos c1).symm
 · by_cases c2:(Builtin.Str.occurrences y sep 0 y.length (y.length+1)).isEmpty=true
   · refine call_meets F.slot_str_split (typeIs_str _ _ _) F.entry_str_split (F.args_str_split_2 _ _) (meets_str_split_not_found y sep k k2 (el4.mpr c1) h0 c2) ?_;exact fin [(y,k)] s.toks ((if_neg c1).trans (if_pos c2)).symm
   · refine call_meets F.slot_str_split (typeIs_str _ _ _) F.entry_str_split (F.args_str_split_2 _ _) (meets_str_split_sep y sep k k2 (el4.mpr c1) h0 (el4.mpr c2) z1 z2) ?_;have:=fin (PySem.numbered s.toks (Builtin.Str.partsBetween y (Builtin.Str.occurrences y sep 0 y.length (y.length+1)) sep.length)) (s.toks+(Builtin.Str.partsBetween y (Builtin.Str.occurrences y sep 0 y.length (y.length+1)) sep.length).length) ((numbered_texts _ _).trans ((if_neg c1).trans (if_neg c2)).symm);rw[<-strsFrom_eq] at this;exact this
theorem az1 (ho:PE X o to)(ha:PA X [e] t)
   (hbase:attributeBase o "split" X.env (eval o X.env)=eval o X.env:=by rfl)
   (hfew:((backTo pos (starEach [e] X.env)).all (fun x=> !x.1)&&(backToKw pos (keywordEach [] X.env)).all (fun x=>x.1.isSome)
     &&decide ([e].length+([]:List Keyword).length+(if ([]:List Keyword).isEmpty then 0 else 1) < 30))=true:=by rfl)
   (hline:(apos.endLine==pos.line)=true:=by rfl) (hs:starEach [e] X.env=(false,eval e X.env)::starEach [] X.env:=by rfl) (hplain:(backTo pos (starEach [] X.env)).any (·.1)=false:=by rfl):
   PE X (.Call (.Attribute o "split" apos) [e] [] pos) (tBM X.K "str" cu4 to t):=
 W8 PySem.F.plainAttrs_str PySem.F.slot_str_split PySem.F.type_str_split db6 ho ha hbase hfew hline hs hplain
def dz7:V->Option Int->Option Int->Hp->VK->Prop:=fun x lo hi H Q=>∃y,x= .str y/\y.length<=sizeLine/\Q (.str (Txt.slice y lo hi)) H
theorem dq1:SlR X dz7:=by
 intro pins s σ H x v vl vu lo hi sl Q I rx hs pl pu h;obtain ⟨y,rfl,hz,q⟩:=h;obtain ⟨k,rfl⟩:=rx;refine ⟨"str",_,F.slot_str_getitem.lookup,typeIs_str _ _ _,?_⟩
 have part:∀{w:Value} {n:Option Int},IsPart w n->∃z:Option (Int×Tok),w=partValue z/\z.map (·.1)=n:=fun h=>by
   cases h with
   |none=>exact ⟨none,rfl,rfl⟩
   |int i t=>exact ⟨some (i,t),rfl,rfl⟩
 obtain ⟨zl,rfl,el⟩:=part pl;obtain ⟨zu,rfl,eu⟩:=part pu;refine wpAny_getItem_str_slice (l:=zl) (u:=zu) (st:=none) hs rfl ?_;refine post_val_or_str ?_;have sz:=Txt.slice_le y lo hi;subst el eu;exact ⟨ee0 sz hz,fun t' k'=>⟨.str _,H,I.tok k',⟨_,rfl⟩,q⟩⟩
end
end L2
namespace L2
open PySem PySem.Spec PyProof.Rows
section
variable {X:Cx}
theorem E8 {e:Expr}:PE X e (fun _ _ _=>False):=fun _ _ _ _ _ _ h=>h.elim
theorem dj9 {body:List Stmt}{h₀:ExceptHandler}{hs:List ExceptHandler}{pos:Pos}{t:TS}(hb:PSs X body t)(hx:∀e s,X.xe e s->False:=by intro _ _ h;exact h):PS X (.Try body (h₀::hs) [] [] pos) t:=by
 intro pins s σ H D I h;refine wpAny_Try_except (wpAny_mono (hb pins s σ H D I h) (fun f s1 q=> ?_) fun e s1 z=>(hx e s1 z).elim)
 cases f with
 |next=>exact wpAny_execs_nil q
 |_=>exact q
theorem dq2 {o:Expr}{to:TE}{apos pos:Pos}(ho:PE X o to)(hbase:attributeBase o "pop" X.env (eval o X.env)=eval o X.env:=by rfl)(hline:(apos.endLine==pos.line)=true:=by rfl):
 PE X (.Call (.Attribute o "pop" apos) [] [] pos) (do7 X.K "list" do9 to):=do8 PySem.F.plainAttrs_list PySem.F.slot_list_pop PySem.F.type_list_pop dp0 ho hbase hline
theorem bm4 (K:PySem.W.Frag){o e:Expr}{to:TE}{t:TA}{apos pos:Pos}(ho:PE X o to)(ha:PA X [e] t)(hK:X.K=K:=by rfl)
   (hbase:attributeBase o "pop" X.env (eval o X.env)=eval o X.env:=by rfl)
   (hfew:((backTo pos (starEach [e] X.env)).all (fun x=> !x.1)&&(backToKw pos (keywordEach [] X.env)).all (fun x=>x.1.isSome)
     &&decide ([e].length+([]:List Keyword).length+(if ([]:List Keyword).isEmpty then 0 else 1) < 30))=true:=by rfl)
   (hline:(apos.endLine==pos.line)=true:=by rfl) (hs:starEach [e] X.env=(false,eval e X.env)::starEach [] X.env:=by rfl) (hplain:(backTo pos (starEach [] X.env)).any (·.1)=false:=by rfl):
   PE X (.Call (.Attribute o "pop" apos) [e] [] pos) (tBM K "list" cp8 to t):=by
 subst hK;exact W8 PySem.F.plainAttrs_list PySem.F.slot_list_pop PySem.F.type_list_pop cz5 ho ha hbase hfew hline hs hplain
end
end L2
namespace Mth
def ac3 (sep:List Nat):List (List Nat)->List Nat
 |[]=>[]
 |[p]=>p
 |p::q::r=>p++sep++ac3 sep (q::r)
def bq0 (w:Nat):Nat->List (List Nat)->List Nat
 |_,[]=>[]
 |_,[_]=>[]
 |a,p::q::r=>(a+p.length)::bq0 w (a+p.length+w) (q::r)
def bu8 (xs:List Nat)(w:Nat):Nat->List Nat->List (List Nat)
 |a,[]=>[(xs.drop a).take (xs.length - a)]
 |a,c::r=>(xs.drop a).take (c - a)::bu8 xs w (c+w) r
def mL (xs sep:List Nat)(i:Nat):Bool:=(xs.drop i).take sep.length==sep
theorem db7 {xs rest:List Nat}{c0 i:Nat}(h:mL xs (c0::rest) i=true):xs[i]? =some c0:=by
 have h:(xs.drop i).take (rest.length+1)=c0::rest:=eq_of_beq h;have h2:=congrArg (fun l=>l[0]?) h;simp only[et5] at h2;rw[eg1 (by omega),ek8] at h2
 simpa using h2
theorem az2 {xs rest:List Nat}{c0 a m:Nat}(h:∀i,a<=i->i < a+m->xs[i]? ≠some c0):(eh2 a m).filter (mL xs (c0::rest))=[]:=by
 rw[List.filter_eq_nil_iff];intro i hi;have:=es6.mp hi
 exact fun z=>h i this.1 this.2 (db7 z)
theorem bm5 {sep:List Nat}:∀{p:List Nat} {r:List (List Nat)},p.length<=(ac3 sep (p::r)).length
 |p,[]=>ec6 _
 |p,q::r=>by show p.length<=(p++sep++ac3 sep (q::r)).length;simp only[ec2];omega
theorem dz8 {rest:List Nat}{c0:Nat}(h0:c0∉rest):∀(parts:List (List Nat)) (pre xs:List Nat),parts≠[]->(∀p∈parts,c0∉p)->xs=pre++ac3 (c0::rest) parts->
   (eh2 pre.length (xs.length+1 - pre.length)).filter (mL xs (c0::rest))=bq0 (rest.length+1) pre.length parts
 |[],_,_,h,_,_=>absurd rfl h
 |[p],pre,xs,_,hp,e=>by
  show _=[];have e:xs=pre++p:=e
  refine az2 fun i h1 h2 z=> ?_
  have hl:i < xs.length:=(ec0.mp z).1;rw[e,ed6 h1] at z;exact hp p ec5 (ec4 z)
 |p::q::r,pre,xs,_,hp,e=>by
  have e:xs=pre++(p++(c0::rest)++ac3 (c0::rest) (q::r)):=e
  have el:xs.length=pre.length+p.length+(rest.length+1)+(ac3 (c0::rest) (q::r)).length:=by
    rw[e];simp only[ec2,ef6];omega
  have ih:=dz8 h0 (q::r) (pre++p++(c0::rest)) xs (by simp) (fun y hy=>hp y (ec9 _ hy)) (by rw[e];simp only[ee7])
  have lpre:(pre++p++(c0::rest)).length=pre.length+p.length+(rest.length+1):=by simp only[ec2,ef6]
  rw[lpre] at ih
  have spl:eh2 pre.length (xs.length+1 - pre.length)=eh2 pre.length p.length++(eh2 (pre.length+p.length) 1++(eh2 (pre.length+p.length+1) rest.length++eh2 (pre.length+p.length+(rest.length+1)) (xs.length+1 - (pre.length+p.length+(rest.length+1))))):=by
    rw[show pre.length+p.length+(rest.length+1)=pre.length+p.length+1+rest.length by omega];rw[en8,en8,en8]
    congr 1;omega
  rw[spl,em1,em1,em1,ih];rw[az2 (fun i h1 h2 z=> ?_),az2 (a:=pre.length+p.length+1) (fun i h1 h2 z=> ?_)]
  · have:mL xs (c0::rest) (pre.length+p.length)=true:=by
      unfold mL
      have:xs.drop (pre.length+p.length)=(c0::rest)++ac3 (c0::rest) (q::r):=by
        rw[e,<-ee7,<-ee7,ee7,eu3 (by simp only[ec2])]
      rw[this,eu6];exact beq_self_eq_true _
    show []++(List.filter _ [pre.length+p.length]++([]++_))=_;rw[ep3 this];rfl
  · rw[e,ed6 (by omega),ee7,ed6 (by omega),List.cons_append] at z;rw[show i - pre.length - p.length=(i - pre.length - p.length - 1)+1 by omega,ep1,ef3 (by omega)] at z;exact h0 (ec4 z)
  · rw[e,ed6 (by omega),ee7,ef3 (by omega)] at z;exact hp p ec5 (ec4 z)
theorem db8 {sep:List Nat}:∀(parts:List (List Nat)) (pre xs:List Nat),parts≠[]->xs=pre++ac3 sep parts->bu8 xs sep.length pre.length (bq0 sep.length pre.length parts)=parts
 |[],_,_,h,_=>absurd rfl h
 |[p],pre,xs,_,e=>by
  have e:xs=pre++p:=e;show [(xs.drop pre.length).take (xs.length - pre.length)]=[p];rw[e,List.drop_left,ec2,Nat.add_sub_cancel_left,ee1]
 |p::q::r,pre,xs,_,e=>by
  have e:xs=pre++(p++sep++ac3 sep (q::r)):=e;have ih:=db8 (sep:=sep) (q::r) (pre++p++sep) xs (by simp) (by rw[e];simp only[ee7])
  have lpre:(pre++p++sep).length=pre.length+p.length+sep.length:=by simp only[ec2]
  rw[lpre] at ih;show (xs.drop pre.length).take (pre.length+p.length - pre.length)::bu8 xs sep.length (pre.length+p.length+sep.length) (bq0 sep.length (pre.length+p.length+sep.length) (q::r))=_;rw[ih,e,List.drop_left,Nat.add_sub_cancel_left,ee7,eu6]
end Mth
namespace L2
open PySem PySem.Builtin PySem.Builtin.Str PySem.StrLaws
def mS (s sub:Str)(hi i:Nat):Bool:=decide (i+sub.length<=hi)&&subAt s sub i
theorem az3 (s sub:Str)(hi limit:Nat)(sep:∀i j,i < j->mS s sub hi i=true->mS s sub hi j=true->i+sub.length<=j):∀(m a:Nat) (st:Array Nat×Nat),st.fst.size<=a->a+m<=limit->(∀i,a<=i->mS s sub hi i=true->st.snd<=i)->
   (forIn (eh2 a m) st (occBody s sub hi limit)).run.fst.toList=st.fst.toList++(eh2 a m).filter (mS s sub hi)
 |0,a,st,_,_,_=>by
  show st.fst.toList=st.fst.toList++[];rw[ef4]
 |m+1,a,st,h1,h2,h3=>by
  rw[List.range'_succ,em4]
  by_cases hm:mS s sub hi a=true
  · have c:((st.fst.size < limit/\st.snd<=a)/\a+sub.length<=hi)/\subAt s sub a=true:=by
      have z:=hm;unfold mS at z;rw[ef7] at z;exact ⟨⟨⟨by omega,h3 a (ec6 _) hm⟩,of_decide_eq_true z.1⟩,z.2⟩
    have e:occBody s sub hi limit a st=pure (ForInStep.yield (st.fst.push a,a+sub.length)):=if_pos c;rw[e,ep3 hm];show (forIn (eh2 (a+1) m) (st.fst.push a,a+sub.length) (occBody s sub hi limit)).run.fst.toList=_;rw[az3 s sub hi limit sep m (a+1) (st.fst.push a,a+sub.length) (by rw[Array.size_push];omega) (by omega) (fun i hi' mi=>sep a i (by omega) hm mi)];rw[es7,ee7];rfl
  · have c:¬(((st.fst.size < limit/\st.snd<=a)/\a+sub.length<=hi)/\subAt s sub a=true):=fun z=>hm (by
      unfold mS;rw[ef7]
      exact ⟨decide_eq_true z.1.2,z.2⟩)
    have e:occBody s sub hi limit a st=pure (ForInStep.yield (st.fst,st.snd)):=if_neg c;rw[e,et7 hm];show (forIn (eh2 (a+1) m) (st.fst,st.snd) (occBody s sub hi limit)).run.fst.toList=_;rw[az3 s sub hi limit sep m (a+1) (st.fst,st.snd) (by show st.fst.size<=a+1;omega) (by omega) (fun i hi' mi=>h3 i (by omega) mi)]
theorem ck9 {s sub:Str}(sep:∀i j,i < j->mS s sub s.length i=true->mS s sub s.length j=true->i+sub.length<=j):occurrences s sub 0 s.length (s.length+1)=(eh2 0 (s.length+1)).filter (mS s sub s.length):=by
 rw[occ_eq];show (forIn (eh2 0 (s.length+1 - 0)) ((#[]:Array Nat),0) (occBody s sub s.length (s.length+1))).run.fst.toList=_;rw[az3 s sub s.length (s.length+1) sep _ 0 (#[],0) (by simp) (by omega) (fun i _ _=>ee2 _)];rfl
theorem dg0 {s sub:Str}{c0:Nat}{rest:List Nat}(hs:sub.cps.toList=c0::rest)(i:Nat):mS s sub s.length i=Mth.mL s.cps.toList (c0::rest) i:=by
 have lw:sub.length=(c0::rest).length:=by rw[<-hs];rfl
 have ls:s.length=s.cps.toList.length:=rfl;unfold mS Mth.mL;rw[subAt_eq,lw,hs]
 by_cases h:i+(c0::rest).length<=s.length
 · rw[decide_eq_true h,Bool.true_and]
 · rw[decide_eq_false h,Bool.false_and]
   symm
   rw[beq_eq_false_iff_ne];intro e;have:=congrArg en0 e;rw[ed3,ei0] at this;rw[ef6] at this h;omega
theorem dq3 {xs rest:List Nat}{c0:Nat}(h0:c0∉rest){i j:Nat}(hij:i < j)(hi:Mth.mL xs (c0::rest) i=true)(hj:Mth.mL xs (c0::rest) j=true):i+(c0::rest).length<=j:=by
 rcases ep2 j (i+(c0::rest).length) with z|z
 · exfalso;have e:(xs.drop i).take (c0::rest).length=c0::rest:=eq_of_beq hi
   have h2:((xs.drop i).take (c0::rest).length)[j - i]? =(c0::rest)[j - i]? :=by rw[e]
   rw[eg1 (by omega),ek8,show i+(j - i)=j by omega,Mth.db7 hj,show j - i=(j - i - 1)+1 by omega,ep1] at h2;exact h0 (ec4 h2.symm)
 · exact z
theorem O6 {a b:Str}(h:a.cps.toList=b.cps.toList):a=b:=Str.ext' (Array.toList_inj.mp h)
theorem C2 (a b:Str):(a++b).cps.toList=a.cps.toList++b.cps.toList:=by rw[Str.cps_append,Array.toList_append]
theorem O3 (sep:Str):∀parts:List Str,(Str.join sep parts).cps.toList=Mth.ac3 sep.cps.toList (parts.map (·.cps.toList))
 |[]=>rfl
 |[p]=>rfl
 |p::q::r=>by
  show (p++sep++Str.join sep (q::r)).cps.toList=p.cps.toList++sep.cps.toList++Mth.ac3 sep.cps.toList ((q::r).map (·.cps.toList));rw[C2,C2,O3 sep (q::r)]
theorem ap9 (x:Str)(w:Nat):∀(cuts:List Nat) (a:Nat),(partsFrom x w a cuts).map (·.cps.toList)=Mth.bu8 x.cps.toList w a cuts
 |[],a=>by
  show [(strSub x a x.length).cps.toList]=_;rw[strSub_toList];rfl
 |c::r,a=>by
  show (strSub x a c).cps.toList::(partsFrom x w (c+w) r).map (·.cps.toList)=_;rw[strSub_toList,ap9 x w r (c+w)];rfl
theorem db9 {sep:Str}{parts:List Str}{c0:Nat}{rest:List Nat}(hs:sep.cps.toList=c0::rest)(h0:c0∉rest)(hp:∀p∈parts,c0∉p.cps.toList)(ne:parts≠[]):
   occurrences (Str.join sep parts) sep 0 (Str.join sep parts).length ((Str.join sep parts).length+1)=Mth.bq0 (rest.length+1) 0 (parts.map (·.cps.toList)):=by
 have em:∀i,mS (Str.join sep parts) sep (Str.join sep parts).length i=Mth.mL (Str.join sep parts).cps.toList (c0::rest) i:=fun i=>dg0 hs i
 rw[ck9 fun i j hij hi hj=>by
   rw[em] at hi hj;have:=dq3 h0 hij hi hj
   have lw:sep.length=(c0::rest).length:=by rw[<-hs];rfl
   omega]
 rw[show mS (Str.join sep parts) sep (Str.join sep parts).length=Mth.mL (Str.join sep parts).cps.toList (c0::rest) from funext em];have:=Mth.dz8 h0 (parts.map (·.cps.toList)) [] (Str.join sep parts).cps.toList (by simpa using ne) (fun p h=>by obtain ⟨q,hq,rfl⟩:=ee3.mp h;exact hp q hq) (by rw[O3,hs];rfl);exact this
theorem an1 {sep:Str}{parts:List Str}{c0:Nat}{rest:List Nat}(hs:sep.cps.toList=c0::rest)(h0:c0∉rest)(hp:∀p∈parts,c0∉p.cps.toList)(ne:parts≠[])(k1:Builtin.Str.strKind sep=1):
   Txt.split (Txt.join sep parts) sep=parts/\(partsBetween (Txt.join sep parts) (occurrences (Txt.join sep parts) sep 0 (Txt.join sep parts).length ((Txt.join sep parts).length+1)) sep.length).length=parts.length:=by
 have ej:Txt.join sep parts=Str.join sep parts:=glued_eq_join sep parts;have oc:=db9 hs h0 hp ne
 have lw:sep.length=rest.length+1:=by show sep.cps.toList.length=_;rw[hs];rfl
 have pb:partsBetween (Str.join sep parts) (occurrences (Str.join sep parts) sep 0 (Str.join sep parts).length ((Str.join sep parts).length+1)) sep.length=parts:=by
   rw[partsBetween_eq,oc,lw];have h:=ap9 (Str.join sep parts) (rest.length+1) (Mth.bq0 (rest.length+1) 0 (parts.map (·.cps.toList))) 0;have h2:=Mth.db8 (sep:=c0::rest) (parts.map (·.cps.toList)) [] (Str.join sep parts).cps.toList (by simpa using ne) (by rw[O3,hs];rfl);have h3:=h.trans h2;exact (List.map_inj_right fun a b e=>O6 e).mp h3
 rw[ej];refine ⟨?_,by rw[pb]⟩
 have kd:¬Builtin.Str.strKind (Str.join sep parts) < Builtin.Str.strKind sep:=by
   rw[k1];unfold Builtin.Str.strKind;split
   · omega
   · split<;>omega
 unfold Txt.split;rw[decide_eq_false kd,Bool.or_false]
 cases parts with
 |nil=>exact absurd rfl ne
 |cons p r=>
  cases r with
  |nil=>
   have:(occurrences (Str.join sep [p]) sep 0 (Str.join sep [p]).length ((Str.join sep [p]).length+1)).isEmpty=true:=by rw[oc];rfl
   rw[if_pos this,ite_self];rfl
  |cons q r=>
   have c1:¬(decide ((Str.join sep (p::q::r)).length < sep.length))=true:=by
     rw[decide_eq_true_iff];show ¬(p++sep++Str.join sep (q::r)).length < sep.length;rw[Str.length_append,Str.length_append];omega
   have c2:¬(occurrences (Str.join sep (p::q::r)) sep 0 (Str.join sep (p::q::r)).length ((Str.join sep (p::q::r)).length+1)).isEmpty=true:=by rw[oc];simp [Mth.bq0]
   rw[if_neg c1,if_neg c2,pb]
end L2
namespace L2
open PySem PySem.Spec PyProof.Rows
theorem cu5 {vs out:List Value}{ns:List Int}(h:IntsAre vs ns)(p:out.Perm vs):∃ms,IntsAre out ms/\ms.Perm ns/\ms=out.map numOf:=by
 refine ⟨out.map numOf,intsAre_map out fun v hv=>h.all v (p.mem_iff.mp hv),?_,rfl⟩;rw[<-h.nums];exact p.map numOf
end L2
namespace L2
open PySem PySem.Spec PyProof PyProof.Rows
section
variable {X:Cx}
theorem bm6:∀{ds:List Addr} {its:List Value},o8 (ds.map V.ref) its->its=ds.map Value.ref
 |[],_,h=>by cases h;rfl
 |d::ds,_,h=>by
  cases h with
  |cons r rr=>
   rename_i u us;have e:u=Value.ref d:=r;rw[e,bm6 rr];rfl
def dg1 (K:PySem.W.Frag):List V->Hp->VK->Prop:=fun xs H Q=>∃(a C tp:Addr) (ds:List Addr) (b:Bool),xs=[.ref a,.ref tp]/\H a=some (as5 a C)/\H tp=some (.tup (ds.map V.ref))/\ay9 K C/\PySem.W.kitAny K (.ref C) (ds.map Value.ref)=some b/\Q (.bl b) H
theorem cu6:K0 X (.builtin "isinstance") (dg1 X.K):=by
 intro pins s σ H xs us Q I r h;obtain ⟨a,C,tp,ds,b,rfl,hH,ht,ei,hk,q⟩:=h;obtain ⟨u1,u2,rfl,r1,r2⟩:=al5 r;cases (show u1=Value.ref a from r1);cases (show u2=Value.ref tp from r2);have p:=(show A5 X.prog X.w H s.heap a (as5 a C) from I.hok a _ hH).1;obtain ⟨its,rv,⟨o,ho,hc,n,hd⟩,_⟩:=I.tuple (M6.of ht);obtain ⟨c,dd,dt,sl⟩:=o;cases hc;cases hd;have e:=bm6 rv;subst e
 exact PySem.W.kia_tup (bu5 ei) I.kIn p ho hk (fun z=>nomatch z) fun tk=>⟨.bl b,H,I.tok tk,rfl,q⟩
theorem dk0 {a b:Expr}{ta:TA}{p pos:Pos}(hm:X.mg "isinstance"=none)(ha:PA X [a,b] ta)(hg:Gl X "isinstance":=by rfl)
 (he:starEach [a,b] X.env=(false,eval a X.env)::starEach [b] X.env:=by rfl) (hpl:(backTo pos (starEach [b] X.env)).any (·.1)=false:=by rfl):
 PE X (.Call (.Name "isinstance" p) [a,b] [] pos) (V9 (dg1 X.K) ta):=K7 cu6 hg hm ay2 ha (by decide) (by decide) he hpl
end
end L2
namespace L2
open PySem PySem.Spec PyProof PyProof.Rows
open PySem.Builtin PySem.Builtin.Str PySem.Builtin.BaseException PySem.Builtin.Exceptions
section
variable {X:Cx}
structure dz9 (K:PySem.W.Frag)(C:Addr):Prop where
 str:PySem.W.findIn K (.ref C) "__str__"=some (some (.builtin "BaseException.__str__"))
 bex:PySem.W.mroIn K C (.type "BaseException")=some true
end
end L2
namespace L2
open PySem PySem.Spec PyProof.Rows
section
variable {P:Program} {w:World} {K:PySem.W.Frag} {mg:Str->Option Value} {base h:Heap} {x:Str} {st:Stmt} {f:Addr} {fd:FuncData} {ps:List Str} {k:Nat} {sp:Sp}
def Fu (K:PySem.W.Frag)(x:Str)(st:Stmt)(f:Addr):Prop:=∃fd,PySem.W.nsIn K mainGlobals x=some (some (.ref f))/\x6 K x x st f fd
theorem dv0 {oc:Value}{od an:Option Addr}{osl:Array (Option Value)}{kV doc pm cdv ct:Value}(a:PySem.W.nsIn K mainGlobals x=some (some (.ref f)))(l:K.lookup f=some ⟨oc,od,.func (PySem.W.fnOf x x (Y7 st) (R7 st) (j6 st) .none kV doc pm an cdv ct),osl⟩)
 (c:PySem.W.codeIn K cdv x=true) (k:PySem.W.keepIn K (.ref f)=true):Fu K x st f:=⟨_,a,cq5 l c k⟩
theorem p7 (X:K.In h)(G:h.Ns mainGlobals mg)(a:PySem.W.nsIn K mainGlobals x=some (some (.ref f)))(F:x6 K x x st f fd)(b:L6 K fd ps [])(ok:n5 P w K mg base y7 k f fd ps sp):m8 P w K mg base x k ps sp:=⟨f,fd,PySem.W.mg_of X G a,F.kp,b,ok⟩
theorem Z2 (X:K.In h)(G:h.Ns mainGlobals mg)(a:PySem.W.nsIn K mainGlobals x=some (some (.ref f)))(F:x6 K x x st f fd)(b:L6 K fd ps [])(ok:n5 P w K mg base (W2 P w) k f fd ps sp):Q8 P w K mg base x k ps sp:=⟨f,fd,PySem.W.mg_of X G a,F.kp,b,ok⟩
def Fre (K:PySem.W.Frag):List Str->Prop
 |[]=>True
 |x::l=>PySem.W.nsIn K mainGlobals x=some none/\Fre K l
structure ClF (K:PySem.W.Frag)(T:Addr)(x:Str)(q:Addr):Prop where
 n:PySem.W.nsIn K mainGlobals x=some (some (.ref q))
 e:PySem.W.excIn K q veB "ValueError.__new__"=true
 g:PySem.W.findIn K (.ref q) "__getattribute__"=some (some (.builtin "BaseException.__getattribute__"))
 h:PySem.W.findIn K (.ref q) "__getattr__"=some none
 c:PySem.W.findIn K (.ref q) "__class__"=some (some (.builtin "object.__class__"))
 b:PySem.W.mroIn K q (.type "BaseException")=some true
 o:PySem.W.mroIn K q (.type "object")=some true
 i:PySem.W.isClsIn K q=true
 t:PySem.W.typeIn K (.ref q)=some (.type "type")
 u:PySem.W.mroIn K q (.ref T)=some true
 v:PySem.W.mroIn K q (.type "ValueError")=some true
 s:PySem.W.findIn K (.ref q) "__str__"=some (some (.builtin "BaseException.__str__"))
def bh1 (K:PySem.W.Frag)(T:Addr):List (Str×Addr)->Prop
 |[]=>True
 |(x,q)::l=>ClF K T x q/\bh1 K T l
def PrI (K:PySem.W.Frag)(i:Nat)(a:Addr):Nat->List (Str×Addr)->Prop
 |_,[]=>True
 |j,(_,b)::l=>PySem.W.mroIn K a (.ref b)=some (Nat.beq i j)/\PrI K i a (j+1) l
def bh2 (K:PySem.W.Frag)(all:List (Str×Addr)):Nat->List (Str×Addr)->Prop
 |_,[]=>True
 |i,(_,a)::l=>PrI K i a 0 all/\bh2 K all (i+1) l
theorem bh1.get {T:Addr}:∀{cs:List (Str×Addr)},bh1 K T cs->∀p∈cs,ClF K T p.1 p.2
 |(x,q)::l,h,p,hp=>by
  rcases ec8.mp hp with rfl|hp
  · exact h.1
  · exact bh1.get h.2 p hp
theorem PrI.get {i:Nat}{a:Addr}:∀{l:List (Str×Addr)} {j0:Nat},PrI K i a j0 l->∀j q,l[j]? =some q->PySem.W.mroIn K a (.ref q.2)=some (Nat.beq i (j0+j))
 |(x,b)::l,j0,h,0,q,e=>by
  cases e;exact h.1
 |(x,b)::l,j0,h,j+1,q,e=>by
  have:=PrI.get h.2 j q e;rw[this,show j0+1+j=j0+(j+1) by omega]
theorem bh2.get {all:List (Str×Addr)}:∀{l:List (Str×Addr)} {i0:Nat},bh2 K all i0 l->∀i p,l[i]? =some p->PrI K (i0+i) p.2 0 all
 |(x,b)::l,i0,h,0,p,e=>by
  cases e;exact h.1
 |(x,b)::l,i0,h,i+1,p,e=>by
  have:=bh2.get h.2 i p e;rw[show i0+1+i=i0+(i+1) by omega] at this;exact this
theorem cu7 {T:Addr}{cs:List (Str×Addr)}(X:K.In h)(G:h.Ns mainGlobals mg)(uT:PySem.W.nsIn K mainGlobals "TurnError"=some (some (.ref T)))(uTb:PySem.W.mroIn K T (.type "BaseException")=some true)(uTc:PySem.W.isClsIn K T=true)(uTt:PySem.W.typeIn K (.ref T)=some (.type "type"))
   (uG:PySem.W.specialIn K (.builtin "object.__class__") "__get__"=some (some (.builtin "getset_descriptor.__get__"))) (uK:PySem.W.takesIn K (.builtin "object.__class__")=some true) (uC:bh1 K T cs) (uP:bh2 K cs 0 cs) (nd:(cs.map (·.1)).Nodup):bu6 K mg T cs:=by
 have key:∀p∈cs,∀q∈cs,PySem.W.mroIn K p.2 (.ref q.2)=some (decide (p.1=q.1))/\(p.2=q.2->decide (p.1=q.1)=true):=fun p hp q hq=>by
   obtain ⟨i,hi⟩:=eq5 hp;obtain ⟨j,hj⟩:=eq5 hq
   have e:∀{k:Nat} {r:Str×Addr},cs[k]? =some r->PySem.W.mroIn K p.2 (.ref r.2)=some (Nat.beq i k):=fun {k r} hr=>by
     have:=(uP.get i p hi).get k r hr;rw[en5,en5] at this;exact this
   have eb:decide (p.1=q.1)=Nat.beq i j:=by
     by_cases z:i=j
     · subst z;rw[hi] at hj;cases hj;rw[decide_eq_true rfl,Nat.beq_refl]
     · have:Nat.beq i j=false:=by
         cases y:Nat.beq i j with
         |false=>rfl
         |true=>exact absurd (Nat.eq_of_beq_eq_true y) z
       rw[this]
       refine decide_eq_false fun y=>z ?_
       have i1:i < (cs.map (·.1)).length:=by rw[eb8];exact (ec0.mp hi).1
       refine (List.getElem?_inj i1 nd).mp ?_;rw[ec1,ec1,hi,hj];exact congrArg some y
   rw[eb];refine ⟨e hj,fun z=> ?_⟩;have a:=e hi;rw[z] at a;have b:=e hj;rw[z,a,Nat.beq_refl] at b;exact (Option.some.inj b).symm
 refine ⟨PySem.W.mg_of X G uT,fun p hp=> ?_,fun p hp=> ?_,fun p hp=> ?_,fun p hp=> ?_,fun p hp q hq=> ?_,fun p hp q hq=> ?_⟩
 · exact ⟨PySem.W.mg_of X G (uC.get p hp).n,(uC.get p hp).e⟩
 · have c:=uC.get p hp;exact dj7 c.g c.h c.c uG uK c.b c.o c.i
 · exact cf9 uTb uTc uTt (uC.get p hp).u
 · exact dq0 (uC.get p hp).v
 · have c:=uC.get q hq;exact dj6 c.i c.t (key p hp q hq).1 (key p hp q hq).2
 · have c:=uC.get q hq;exact cf9 c.b c.i c.t (key p hp q hq).1
end
end L2
namespace My
open PySem L2 Mth
def top (i:Nat):Stmt:=PySem.Challenge.pw_turnroots_k51_asked_at_the_desk.main.body.getD i (.Pass ⟨0,0,0,0⟩)
abbrev an2:Stmt:=top 14
abbrev Q9:Stmt:=top 15
abbrev X1:Stmt:=top 17
abbrev ai1:Stmt:=top 18
abbrev ae3:Stmt:=top 19
abbrev ae4:Stmt:=top 20
abbrev ai2:Stmt:=top 21
abbrev V6:Stmt:=top 22
abbrev as6:Stmt:=top 27
abbrev Z3:Stmt:=top 28
abbrev X2:Stmt:=top 29
abbrev R0:Stmt:=top 30
abbrev ai3:Stmt:=top 34
abbrev as7:Stmt:=top 35
abbrev as8:Stmt:=top 36
abbrev R3:Stmt:=top 37
abbrev ai4:Stmt:=top 38
abbrev ab3:Stmt:=top 39
abbrev ab4:Stmt:=top 41
abbrev ae5:Stmt:=top 42
abbrev ai5:Stmt:=top 43
abbrev ah0:Stmt:=top 54
abbrev X3:Stmt:=top 55
abbrev S6:Stmt:=top 58
abbrev ae6:Stmt:=top 60
abbrev ai6:Stmt:=top 61
abbrev ae7:Stmt:=top 62
abbrev ae8:Stmt:=top 63
abbrev ab5:Stmt:=top 64
abbrev ai7:Stmt:=top 65
abbrev ae9:Stmt:=top 72
abbrev as9:Stmt:=top 73
abbrev ai8:Stmt:=top 74
abbrev af0:Stmt:=top 76
abbrev an3:Stmt:=top 77
abbrev az4:Stmt:=top 78
abbrev an4:Stmt:=top 79
abbrev ab6:Stmt:=top 80
abbrev ai9:Stmt:=top 81
abbrev S7:Stmt:=top 84
abbrev aj0:Stmt:=top 85
abbrev X4:Stmt:=top 86
abbrev aj1:Stmt:=au8 (top 87) 0
abbrev Z4:Stmt:=au8 (top 87) 2
abbrev V7:Stmt:=au8 (top 87) 3
abbrev ac4:Stmt:=au8 (top 87) 4
abbrev ab7:Stmt:=top 89
abbrev ab8:Stmt:=top 90
abbrev an5:Stmt:=top 91
abbrev an6:Stmt:=top 92
abbrev an7:Stmt:=top 93
abbrev af1:Stmt:=top 94
abbrev ab9:Stmt:=top 95
abbrev aj2:Stmt:=top 96
abbrev an8:Stmt:=top 97
abbrev at3:Stmt:=top 98
abbrev an9:Stmt:=top 99
abbrev ao0:Stmt:=top 100
abbrev ao1:Stmt:=top 101
abbrev af2:Stmt:=top 102
abbrev X5:Stmt:=top 103
abbrev bh3:Stmt:=top 104
abbrev P2:Stmt:=top 105
abbrev av3:Stmt:=top 106
end My
namespace My
open PySem L2 Mth
structure Bl (mg:Str->Option Value):Prop where
 len:mg "len"=none
 isi:mg "isinstance"=none
 int:mg "int"=none
 bool:mg "bool"=none
 list:mg "list"=none
 range:mg "range"=none
 sum:mg "sum"=none
 min:mg "min"=none
 max:mg "max"=none
 enum:mg "enumerate"=none
 zip:mg "zip"=none
 sorted:mg "sorted"=none
 tuple:mg "tuple"=none
 str:mg "str"=none
 repr:mg "repr"=none
 all:mg "all"=none
 any:mg "any"=none
 set:mg "set"=none
 dict:mg "dict"=none
 ve:mg "ValueError"=none
section
variable {P:Program} {w:World} {K:PySem.W.Frag} {mg:Str->Option Value} {base:Heap}
def av4 (K:PySem.W.Frag):Sp:=fun vs H Q _=>∃x t b1 b2,vs=[x]/\V1 K H x t/\PySem.W.kitOne K t (.type "int")=some b1/\PySem.W.kitOne K t (.type "bool")=some b2/\Q (.bl (b1&& !b2)) H
theorem dk1:m9 ["thing"] ["thing"] (j6 an2):=by rfl'
theorem dc0 {f:Addr}{fd:FuncData}(F:x6 K "is_whole" "is_whole" an2 f fd)(B:Bl mg):n5 P w K mg base y7 1 f fd ["thing"] (av4 K):=by
 refine F.ok dk1 (fun vs H Q E h=> ?_) (fun cdv A outer s H vs Q E hr h=> ?_)
 · obtain ⟨x,t,b1,b2,rfl,_⟩:=h;rfl
 · obtain ⟨x,t,b1,b2,rfl,ty,e1,e2,q⟩:=h;refine ⟨_,c8 (j5 (bb0 (aa6 B.isi (c5 (pv 0) (c5 (da3 B.int) c6))) (aq7 (cn8 (aa6 B.isi (c5 (pv 0) (c5 (cr2 B.bool) c6))))))),?_⟩;refine ⟨x,rfl,x,"int",t,b1,rfl,ty,e1,b1,rfl,?_⟩
   cases b1 with
   |true=>
    refine A8 ⟨x,rfl,x,"bool",t,b2,rfl,ty,e2,b2,rfl,?_⟩;exact q
   |false=>exact n9 q
def ao2:Sp:=fun vs H Q _=>∃(a:Addr) (ns:List Int),vs=[.ref a]/\H a=some (.lst (ns.map V.int))/\∀(b:Bool) (H':Hp),e8 H H'->(b=true↔ns.length<=40/\A1 ns)->Q (.bl b) H'
theorem az5:m9 ["thing","seen","place"] ["thing"] (j6 as6):=by rfl'
theorem cu8 {f:Addr}{fd:FuncData}(F:x6 K "is_turn" "is_turn" as6 f fd)(B:Bl mg)(mt:∃t,mg "MOST_THINGS_turns"=some (.int 40 t))(cW:m8 P w K mg base "is_whole" 1 ["thing"] (av4 K)):n5 P w K mg base y7 2 f fd ["thing"] ao2:=by
 refine F.ok az5 (fun vs H Q E h=> ?_) (fun cdv A outer s H vs Q E hr h=> ?_)
 · obtain ⟨a,ns,rfl,_⟩:=h;rfl
 · obtain ⟨a,ns,rfl,ha,k⟩:=h;obtain ⟨tk,mt⟩:=mt;have hu:=O1 hr
   refine ⟨_,c7 (o6 (R5 (K5 (G8 (aa6 B.isi (c5 (pv 0) (c5 (ar7 B.list) c6))))) (Q3 (j9 au1 (x9 B.len (c5 (pv 0) c6)) (B3 (v:= .int 40) (by rfl) mt ⟨tk,rfl⟩) (j8 _)))).pt (c8 (j5 E5)) k7)
     (c7 (m6 (i:=1) az5.nd rfl (Or.inl rfl) al9)
     (c7 (A7 PassesOwn.never rfl (A0 (pv 0)) (o7 (i:=2) az5.nd rfl (Or.inl rfl))
       (c7 (o6 (R5 (K5 (G8 (i7 cW hr (c5 (pv 2) c6)))) (R5 (j9 bp9 (pv 2) j4 (j8 _)) (R5 (j9 df1 (pv 2) (x9 B.len (c5 (pv 0) c6)) (j8 _)) (Q3 (bq7 (dp1 hu (pv 2) (pv 1))))))).pt (c8 (j5 E5)) k7)
       (c8 (au7 hu (pv 1) (pv 2) E5 rfl))))
     (c8 (j5 E5)))),?_⟩
   refine ⟨_,rfl,_,"list",_,true,rfl,.lst ha,Q6 K "list",true,rfl,?_⟩;refine n9 ⟨_,rfl,a,_,rfl,.inl (i5.of ha),_,_,rfl,rfl,_,rfl,?_⟩;rw[eb8];refine Y8 (fun h40=> ?_) (fun h40=> ?_)
   · have h40:(40:Int) < (ns.length:Int):=of_decide_eq_true h40;exact k false H (e8.refl H) ⟨fun z=>(by cases z),fun z=>(by have:=z.1;omega)⟩
   · have h40:¬(40:Int) < (ns.length:Int):=fun z=>h40 (decide_eq_true z)
     intro d hd;have nad:a≠d:=i4 ha hd
     have ha1:(i8 H d (.dK [])) a=some (.lst (ns.map V.int)):=by rw[i6 nad];exact ha
     refine ⟨_,rfl,a,rfl,⟨_,i5.of ha1⟩,E7 (K:=K) (a:=a) (xs:=ns.map V.int) (fun i σ H2=>∃v:Option V,σ=[some (.ref a),some (.ref d),v]/\e8 H H2/\H2 d=some (.dK (R9 (ns.take i)))/\(ns.take i).Nodup/\∀x∈ns.take i,0<=x/\x < ns.length)
       ⟨none,rfl,e8.upd_new hd,c9,ek7,fun x hx=>by simp at hx⟩ (fun i σ H2 _ zz=>by obtain ⟨_,_,s2,_⟩:=zz;exact i5.of (s2 a _ ha)) ?_ ?_⟩
     · rintro i y σ H2 hi ⟨v,rfl,s2,h2,nd,bd⟩;obtain ⟨z,hz,rfl⟩:=y9 hi;have ha2:=s2 a _ ha;have hil:i < ns.length:=(ec0.mp hz).1;refine ⟨_,rfl,.int z,_,true,false,rfl,.int z,Q6 K "int",ar6 K,_,rfl,?_⟩;refine n9 ⟨_,rfl,_,_,rfl,rfl,_,rfl,?_⟩;refine Y8 (fun hz0=> ?_) (fun hz0=> ?_)
       · have hz0:z < 0:=of_decide_eq_true hz0;exact A8 (k false H2 s2 ⟨fun q=>(by cases q),fun q=>(by have:=q.2.lo z (ec4 hz);omega)⟩)
       have hz0:¬z < 0:=fun q=>hz0 (decide_eq_true q)
       refine ⟨_,rfl,_,rfl,a,_,rfl,.inl (i5.of ha2),_,_,rfl,rfl,_,rfl,?_⟩;rw[eb8];refine Y8 (fun hz1=> ?_) (fun hz1=> ?_)
       · have hz1:(ns.length:Int)<=z:=of_decide_eq_true hz1;exact A8 (k false H2 s2 ⟨fun q=>(by cases q),fun q=>(by have:=q.2.hi z (ec4 hz);omega)⟩)
       have hz1:¬(ns.length:Int)<=z:=fun q=>hz1 (decide_eq_true q)
       refine ⟨_,rfl,_,rfl,d,_,rfl,Y6.k (k:=Sum.inl z) h2,_,rfl,?_⟩
       by_cases hm:z∈ns.take i
       · rw[bs1 hm];refine A8 (k false H2 s2 ⟨fun q=>(by cases q),fun q=> ?_⟩);exfalso;obtain ⟨j,hj⟩:=eh1.mp hm
         have hjl:j < i:=by
           have:=(ec0.mp hj).1;rw[ed3] at this;omega
         rw[eg1 hjl] at hj;have e1:=(ec0.mp hj).2;have e2:=(ec0.mp hz).2;exact ef8.mp (ee6.mp q.2.nd) j i (by omega) hil hjl (by rw[e1,e2])
       · rw[ay3 hm];refine n9 ⟨_,rfl,_,rfl,d,_,rfl,ay1.k (k:=Sum.inl z) h2 (p9 (by unfold R9;rw[eb8,ed3];omega)),?_⟩
         have hds:∀b o,H b=some o->b≠d:=fun b o e=>i4 e hd
         refine ⟨some (.int z),rfl,fun b o e=>by rw[i6 (hds b o e)];exact s2 b o e,?_,?_,?_⟩
         · rw[bl7 hm,c9,n6 hz]
         · rw[n6 hz];exact au9 nd hm
         · intro x hx;rw[n6 hz] at hx
           rcases ed8.mp hx with q|q
           · exact bd x q
           · have:x=z:=by simpa using q
             omega
     · rintro σ H2 ⟨v,rfl,s2,h2,nd,bd⟩;rw[eb8,ee1] at nd bd;refine k true H2 s2 ⟨fun _=>⟨by omega,⟨nd,fun x hx=>(bd x hx).1,fun x hx=>(bd x hx).2⟩⟩,fun _=>rfl⟩
end
end My
namespace My
open PySem L2 Mth
section
variable {P:Program} {w:World} {K:PySem.W.Frag} {mg:Str->Option Value} {base:Heap}
def r9 (H:Hp)(a:Addr)(p:List Int):Prop:=H a=some (.lst (p.map V.int))/\A1 p/\p.length<=40
end
end My
namespace My
open PySem L2 Mth
section
variable {P:Program} {w:World} {K:PySem.W.Frag} {mg:Str->Option Value} {base:Heap}
def af3:Sp:=fun vs H Q _=>∃(a:Addr) (ns:List Int),vs=[.ref a]/\r9 H a ns/\∀(H':Hp),e8 H H'->Q .non H'
theorem dq5:m9 ["thing"] ["thing"] (j6 Z3):=by rfl'
theorem dk2 {f:Addr}{fd:FuncData}(F:x6 K "must_be_turn" "must_be_turn" Z3 f fd)(cT:m8 P w K mg base "is_turn" 2 ["thing"] ao2):n5 P w K mg base y7 3 f fd ["thing"] af3:=by
 refine F.ok dq5 (fun vs H Q E h=> ?_) (fun cdv A outer s H vs Q E hr h=> ?_)
 · obtain ⟨a,ns,rfl,_⟩:=h;rfl
 · obtain ⟨a,ns,rfl,⟨ha,ht,hl⟩,k⟩:=h;refine ⟨_,c8 (o6 (K5 (G8 (i7 cT hr (c5 (pv 0) c6)))) (c8 J6) k7),?_⟩;refine ⟨_,rfl,a,ns,rfl,ha,fun b H' s' hb=>⟨b,rfl,?_⟩⟩;have:b=true:=hb.mpr ⟨hl,ht⟩;subst this;exact n9 (k H' s')
end
end My
namespace My
open PySem L2 Mth
section
variable {P:Program} {w:World} {K:PySem.W.Frag} {mg:Str->Option Value} {base:Heap}
def ao3 (K:PySem.W.Frag):Sp:=fun vs H Q _=>∃(a b:Addr) (xs ys:List V),vs=[.ref a,.ref b]/\i5 K H a xs/\i5 K H b ys/\xs.length=ys.length/\Q .non H
theorem dg2:m9 ["p","q"] ["p","q"] (j6 X2):=by rfl'
theorem cu9 {f:Addr}{fd:FuncData}(F:x6 K "must_fit" "must_fit" X2 f fd)(B:Bl mg):n5 P w K mg base y7 1 f fd ["p","q"] (ao3 K):=by
 refine F.ok dg2 (fun vs H Q E h=> ?_) (fun cdv A outer s H vs Q E hr h=> ?_)
 · obtain ⟨a,b,xs,ys,rfl,_⟩:=h;rfl
 · obtain ⟨a,b,xs,ys,rfl,ha,hb,hl,k⟩:=h;refine ⟨_,c8 (o6 (j9 J3 (x9 B.len (c5 (pv 0) c6)) (x9 B.len (c5 (pv 1) c6)) (j8 _)) (c8 J6) k7),?_⟩;refine ⟨_,rfl,a,xs,rfl,.inl ha,_,rfl,b,ys,rfl,.inl hb,rfl,_,rfl,?_⟩;refine R8 (by rw[hl]) k
def af4:Sp:=fun vs H Q _=>∃(a b:Addr) (p q:List Int),vs=[.ref a,.ref b]/\r9 H a p/\r9 H b q/\p.length=q.length/\
 ∀(l:Addr) (H':Hp),H l=none->e8 H H'->H' l=some (.lst ((B4 p q).map V.int))->Q (.ref l) H'
theorem dc1:m9 ["p","q"] ["p","q"] (j6 R0):=by rfl'
theorem dk3:(["place","p"]:List Str).Nodup:=by decide+kernel
theorem bm7 {f:Addr}{fd:FuncData}(F:x6 K "put_behind" "put_behind" R0 f fd)(cM:m8 P w K mg base "must_be_turn" 3 ["thing"] af3)(cF:m8 P w K mg base "must_fit" 1 ["p","q"] (ao3 K)):n5 P w K mg base y7 4 f fd ["p","q"] af4:=by
 refine F.ok dc1 (fun vs H Q E h=> ?_) (fun cdv A outer s H vs Q E hr h=> ?_)
 · obtain ⟨a,b,p,q,rfl,_⟩:=h;rfl
 · obtain ⟨a,b,p,q,rfl,⟨ha,ta,la⟩,⟨hb,tb,lb⟩,hl,k⟩:=h
   refine ⟨_,c7 (x8 (i7 cM hr (c5 (pv 0) c6))) (c7 (x8 (i7 cM hr (c5 (pv 1) c6))) (c7 (x8 (i7 cF (hr.mono (by decide)) (c5 (pv 0) (c5 (pv 1) c6))))
     (c8 (j5 (G9 (N:=["place","p"]) (nl:=1) (fr:=[0]) rfl .of (A0 (pv 1)) (fun _ _ _ _ _=>o7 (i:=0) dk3 rfl (Or.inl rfl)) (fun _ _ _ _ _=>B7) (fun _ _ _ _ _=>p8 (r:=br3 K) o0 (pv 1) (pv 0) (fun _ _=>rfl))))))),?_⟩
   refine ⟨_,rfl,a,p,rfl,⟨ha,ta,la⟩,fun H1 s1=> ?_⟩;refine ⟨_,rfl,b,q,rfl,⟨s1 _ _ hb,tb,lb⟩,fun H2 s2=> ?_⟩;have s02:=s1.trans s2;refine ⟨_,rfl,_,rfl,a,b,_,_,rfl,i5.of (s02 _ _ ha),i5.of (s02 _ _ hb),by simpa using hl,?_⟩;refine ⟨_,rfl,b,rfl,⟨_,i5.of (s02 _ _ hb)⟩,C0 (K:=K) (a:=b) (xs:=q.map V.int) (fun i ys σ H3=>∃v,σ=[v,some (.ref a)]/\H3=H2/\ys=(B4 p (q.take i)).map V.int) ⟨none,rfl,rfl,rfl⟩ (fun i ys σ H3 _ zz=>by obtain ⟨_,_,e,_⟩:=zz;rw[e];exact i5.of (s02 _ _ hb)) ?_ ?_⟩
   · rintro i x ys σ H3 hi ⟨v,rfl,rfl,rfl⟩;obtain ⟨z,hz,rfl⟩:=y9 hi;have hzq:=ec4 hz;refine ⟨_,rfl,_,rfl,a,_,z,_,rfl,rfl,i5.of (s02 _ _ ha),M3 (tb.lo z hzq) (by have:=tb.hi z hzq;omega),?_,?_⟩
     · refine p9 ?_;unfold B4;rw[eb8,eb8,ed3];omega
     · refine ⟨_,rfl,rfl,?_⟩;rw[n6 hz];unfold B4;rw[ec3,ec3];rfl
   · rintro ys σ H3 ⟨v,rfl,rfl,rfl⟩ D hD;rw[eb8,ee1];exact k D _ (s02.free hD) (s02.upd_r (s02.free hD)) c9
end
end My
namespace My
open PySem L2 Mth
def cl0 (H:Hp)(l:Addr):Nat:=match H l with
 |some (.lst xs)=>xs.length
 |_=>0
theorem bu9 {H:Hp}{l:Addr}{xs:List V}(h:H l=some (.lst xs)):cl0 H l=xs.length:=by unfold cl0;rw[h]
end My
namespace My
open PySem L2 Mth
section
variable {P:Program} {w:World} {K:PySem.W.Frag} {mg:Str->Option Value} {base:Heap}
def J0:Sp:=fun vs H Q _=>∃(a:Addr) (p:List Int),vs=[.ref a]/\r9 H a p/\
 ∀(l:Addr) (as:List Addr) (rs:List (List Int)) (H':Hp),H l=none->e8 H H'->H' l=some (.lst (as.map V.ref))->C8 H' as rs->C4 p p.length rs->(∀b∈as,H b=none)->as.Nodup->l∉as->Q (.ref l) H'
theorem W4 {H:Hp}{as:List Addr}{rs:List (List Int)}{e:Addr}{r:List Int}(h:C8 H as rs)(he:H e=some (.lst (r.map V.int))):C8 H (as++[e]) (rs++[r]):=by
 refine ⟨by rw[ec2,ec2,h.1];rfl,fun j b q h1 h2=> ?_⟩
 by_cases hj:j < as.length
 · rw[ef3 hj] at h1;rw[ef3 (by rw[<-h.1];exact hj)] at h2;exact h.2 j b q h1 h2
 · rw[ed6 (by omega)] at h1;rw[ed6 (by rw[<-h.1];omega),<-h.1] at h2
   have hj0:j - as.length=0:=by
     have:=(ec0.mp h1).1
     simpa using this
   rw[hj0] at h1 h2;cases h1;cases h2;exact he
theorem O0 {H H':Hp}{as:List Addr}{rs:List (List Int)}(h:C8 H as rs)(k:∀b∈as,∀o,H b=some o->H' b=some o):C8 H' as rs:=
 ⟨h.1,fun j a r h1 h2=>k a (ec4 h1) _ (h.2 j a r h1 h2)⟩
theorem az6 {H:Hp}{as:List Addr}{rs:List (List Int)}(h:C8 H as rs){b:Addr}(hb:b∈as):∃r:List Int,H b=some (.lst (r.map V.int)):=by
 obtain ⟨j,hj⟩:=eh1.mp hb;have hjl:=(ec0.mp hj).1;exact ⟨_,h.2 j b (rs[j]'(by rw[<-h.1];exact hjl)) hj (eb9 _)⟩
theorem ak2 {p:List Int}{i:Nat}{rs:List (List Int)}(tp:A1 p)(h:C4 p i rs):rs.flatten.length<=p.length:=by
 refine K9 h.nd fun x hx=> ?_
 obtain ⟨r,hr,hxr⟩:=ef1.mp hx;obtain ⟨y,L,a,b,rfl,_⟩:=h.ring r hr;exact V4 tp a x hxr
theorem V8 {p:List Int}{i:Nat}{rs:List (List Int)}(h:C4 p i rs):rs.length<=rs.flatten.length:=by
 have:∀l:List (List Int),(∀r∈l,1<=r.length)->l.length<=l.flatten.length:=by
   intro l
   induction l with
   |nil=>intro _;exact ec6 _
   |cons a r ih=>
    intro h;have h1:=h a ec5
    have h2:=ih fun x hx=>h x (ec9 _ hx)
    rw[ee8,ec2,ef6];omega
 refine this rs fun r hr=> ?_
 obtain ⟨y,L,a,b,rfl,_⟩:=h.ring r hr;rw[A2];exact b.pos
end
end My
namespace My
open PySem L2 Mth
section
variable {P:Program} {w:World} {K:PySem.W.Frag} {mg:Str->Option Value} {base:Heap}
def bv0:Sp:=fun vs H Q _=>∃(a:Addr) (p:List Int) (x:Int),vs=[.ref a,.int x]/\r9 H a p/\In p x/\
 ∀(l:Addr) (L:Nat) (H':Hp),H l=none->e8 H H'->J9 p x L->L<=40->H' l=some (.lst ((w9 p x L).map V.int))->Q (.ref l) H'
theorem bd7:m9 ["p","first","ring","thing"] ["p","first"] (j6 ai1):=by rfl'
theorem dk4 {f:Addr}{fd:FuncData}(F:x6 K "walk_ring" "walk_ring" ai1 f fd):n5 P w K mg base y7 1 f fd ["p","first"] bv0:=by
 refine F.ok bd7 (fun vs H Q E h=> ?_) (fun cdv A outer s H vs Q E hr h=> ?_)
 · obtain ⟨a,p,x,rfl,_⟩:=h;rfl
 · obtain ⟨a,p,x,rfl,⟨ha,tp,lp⟩,hx,q⟩:=h
   refine ⟨_,c7 (m6 (i:=2) bd7.nd rfl (Or.inl rfl) (A6 (c5 (pv 1) c6)))
     (c7 (m6 (i:=3) bd7.nd rfl (Or.inl rfl) (p8 o0 (pv 0) (pv 1) (fun _ _=>rfl)))
     (c7 (V0 PassesOwn.never (j9 J3 (pv 3) (pv 1) (j8 _)) (c7 (x8 (C6 (pv 2) (c5 (pv 3) c6))) (c8 (m6 (i:=3) bd7.nd rfl (Or.inl rfl) (p8 o0 (pv 0) (pv 3) (fun _ _=>rfl))))))
     (c8 (j5 (pv 2))))),?_⟩
   refine ⟨_,rfl,(by show 1<=sizeLine;decide),fun l hl=> ?_⟩;have nal:a≠l:=i4 ha hl
   have hal:(i8 H l (.lst [.int x])) a=some (.lst (p.map V.int)):=by rw[i6 nal];exact ha
   refine ⟨_,rfl,_,rfl,a,_,_,_,rfl,rfl,i5.of hal,M3 hx.1 hx.2,?_⟩
   refine ax7 (fun σ H2=>∃m:Nat,σ=[some (.ref a),some (.int x),some (.ref l),some (.int (it p m x))]/\1<=m/\H2 l=some (.lst ((w9 p x m).map V.int))/\e8 H H2/\∀i,0 < i->i < m->it p i x≠x) (fun _ H2=>p.length+1 - cl0 H2 l)
     ⟨1,rfl,ec6 _,c9,e8.upd_new hl,fun i i0 i1=>by omega⟩ ?_ ?_
   · rintro σ H2 ⟨m,rfl,m1,h2l,s2,hne⟩;have ha2:=s2 a _ ha;refine ⟨_,rfl,_,rfl,rfl,_,rfl,?_⟩
     by_cases hb:it p m x=x
     · refine R8 (congrArg V.int hb) ?_;exact ⟨_,rfl,q l m H2 hl s2 ⟨by omega,hb,hne⟩ (by have:=O2 tp hx hne;omega) h2l⟩
     · have hb':¬V.int (it p m x)=V.int x:=fun z=>hb (V.int.inj z)
       rw[decide_eq_false hb'];refine A8 ?_
       have hne':∀i,0 < i->i < m+1->it p i x≠x:=fun i i0 i1=>by
         by_cases e:i=m
         · rw[e];exact hb
         · exact hne i i0 (by omega)
       have hbd:=O2 tp hx hne';refine ⟨_,rfl,.inl ⟨rfl,_,i5.of h2l⟩,_,rfl,l,_,_,rfl,rfl,h2l,p9 (by rw[eb8,A2];omega),?_⟩;have hi:=U8 tp hx m;refine ⟨_,rfl,_,rfl,a,_,_,_,rfl,rfl,i5.of (by rw[i6 nal];exact ha2),M3 hi.1 hi.2,?_⟩
       have h3l:(i8 H2 l (.lst ((w9 p x m).map V.int++[.int (it p m x)]))) l=some (.lst ((w9 p x (m+1)).map V.int)):=by
         rw[c9,am4,ec3];rfl
       refine ⟨⟨m+1,rfl,by omega,h3l,fun b o hb=>by rw[i6 (i4 hb hl)];exact s2 b o hb,hne'⟩,?_⟩;rw[bu9 h3l,bu9 h2l,eb8,eb8,A2,A2];omega
   · rintro σ H2 Q Q' hq ⟨v,hv,u,hu,e1,k1,e2,e3⟩;exact ⟨v,hv,u,hu,e1,k1,e2,hq _ _ e3⟩
theorem ac8:m9 ["p","rings","seen","first","ring","thing"] ["p"] (j6 ae3):=by rfl'
theorem dc2 {f:Addr}{fd:FuncData}(F:x6 K "walk_rings" "walk_rings" ae3 f fd)(B:Bl mg)(cR:m8 P w K mg base "walk_ring" 1 ["p","first"] bv0):n5 P w K mg base y7 2 f fd ["p"] J0:=by
 refine F.ok ac8 (fun vs H Q E h=> ?_) (fun cdv A outer s H vs Q E hr h=> ?_)
 · obtain ⟨a,p,rfl,_⟩:=h;rfl
 · obtain ⟨a,p,rfl,⟨ha,tp,lp⟩,q⟩:=h;have hu:=O1 hr
   refine ⟨_,c7 (m6 (i:=1) ac8.nd rfl (Or.inl rfl) (A6 c6)) (c7 (m6 (i:=2) ac8.nd rfl (Or.inl rfl) al9)
     (c7 (A7 PassesOwn.never rfl (K2 (by rfl) B.range (c5 (x9 B.len (c5 (pv 0) c6)) c6)) (o7 (i:=3) ac8.nd rfl (Or.inl rfl))
       (c8 (o6 (bq7 (bl5 hu (pv 3) (pv 2))) (c7 (m6 (i:=4) ac8.nd rfl (Or.inl rfl) (i7 cR hr (c5 (pv 0) (c5 (pv 3) c6)))) (c7 (x8 (C6 (pv 1) (c5 (pv 4) c6)))
         (c8 (A7 PassesOwn.never rfl (A0 (pv 4)) (o7 (i:=5) ac8.nd rfl (Or.inl rfl)) (c8 (au7 hu (pv 2) (pv 5) E5 rfl)))))) k7)))
     (c8 (j5 (pv 1))))),?_⟩
   refine ⟨ee2 _,fun l hl=> ?_⟩;intro d hd
   have hdl:d≠l:=fun z=>by rw[z,c9] at hd;cases hd
   have hd0:H d=none:=by rw[i6 hdl] at hd;exact hd
   have s0:e8 H (i8 (i8 H l (.lst [])) d (.dK [])):=(e8.upd_new hl).upd_r hd0
   have h0l:(i8 (i8 H l (.lst [])) d (.dK [])) l=some (.lst []):=by rw[i6 hdl.symm,c9]
   refine ⟨_,rfl,a,_,rfl,.inl (i5.of (s0 a _ ha)),(p.length:Int),?_,by omega,by omega,?_⟩
   · rw[eb8]
   rw[show ((p.length:Int)).toNat=p.length by omega]
   refine M7 (lo:=0) (n:=p.length) (fun i σ H2=>∃(as:List Addr) (rs:List (List Int)) (v3 v4 v5:Option V),σ=[some (.ref a),some (.ref l),some (.ref d),v3,v4,v5]/\H2 l=some (.lst (as.map V.ref))/\H2 d=some (.dK (R9 rs.flatten))/\C8 H2 as rs/\C4 p i rs/\e8 H H2/\(∀b∈as,H b=none)/\as.Nodup/\l∉as)
     ⟨[],[],none,none,none,rfl,h0l,c9,⟨rfl,fun j b r h=>by simp at h⟩,am5 p,s0,fun b hb=>by simp at hb,ek7,by simp⟩ ?_ ?_
   · rintro i σ H2 hi ⟨as,rs,v3,v4,v5,rfl,h2l,h2d,rows,up,s2,fa,nda,nla⟩;have hx:In p (i:Int):=⟨by omega,by omega⟩
     have e0:(0:Int)+(i:Int)=(i:Int):=by omega
     rw[e0];refine ⟨_,rfl,_,rfl,d,_,rfl,Y6.k (k:=Sum.inl (i:Int)) h2d,_,rfl,?_⟩
     by_cases hm:(i:Int)∈rs.flatten
     · rw[bs1 hm];refine n9 ?_;exact ⟨as,rs,_,_,_,rfl,h2l,h2d,rows,am6 up hm,s2,fa,nda,nla⟩
     · rw[ay3 hm];refine A8 ?_;refine ⟨_,rfl,_,rfl,a,p,_,rfl,⟨s2 a _ ha,tp,lp⟩,hx,fun e L H3 he s23 pr hL h3e=> ?_⟩;have h3l:=s23 l _ h2l;have h3d:=s23 d _ h2d;have nle:l≠e:=i4 h2l he;have nde:d≠e:=i4 h2d he;have fl:=ak2 tp up;have cl:=V8 up;have lenas:=rows.1;refine ⟨_,rfl,.inl ⟨rfl,_,i5.of h3l⟩,_,rfl,l,_,_,rfl,rfl,h3l,p9 (by rw[eb8,lenas];omega),?_⟩
       have es:as.map V.ref++[V.ref e]=(as++[e]).map V.ref:=by rw[ec3];rfl
       rw[es];have h4l:(i8 H3 l (.lst ((as++[e]).map V.ref))) l=some (.lst ((as++[e]).map V.ref)):=c9
       have h4d:(i8 H3 l (.lst ((as++[e]).map V.ref))) d=some (.dK (R9 rs.flatten)):=by rw[i6 hdl];exact h3d
       have h4e:(i8 H3 l (.lst ((as++[e]).map V.ref))) e=some (.lst ((w9 p i L).map V.int)):=by rw[i6 nle.symm];exact h3e
       have k4:∀b o,H2 b=some o->b≠l->(i8 H3 l (.lst ((as++[e]).map V.ref))) b=some o:=fun b o hb hn=>by rw[i6 hn];exact s23 b o hb
       generalize (i8 H3 l (.lst ((as++[e]).map V.ref)))=H4 at h4l h4d h4e k4 ⊢;have fr:=ah8 up pr hm
       have ndr:=Z8 tp hx fun j j0 j1=>pr.least j j0 j1
       refine ⟨_,rfl,e,rfl,⟨_,i5.of h4e⟩,E7 (K:=K) (a:=e) (xs:=(w9 p i L).map V.int) (fun j σ H5=>∃v5':Option V,σ=[some (.ref a),some (.ref l),some (.ref d),some (.int (i:Int)),some (.ref e),v5']/\H5 d=some (.dK (R9 (rs.flatten++(w9 p i L).take j)))/\o5 d H4 H5)
         ⟨v5,rfl,by rw[en4,ef4];exact h4d,o5.refl d H4⟩ (fun j σ H5 _ zz=>by obtain ⟨_,_,_,k⟩:=zz;exact i5.of (k e _ h4e nde.symm)) ?_ ?_⟩
       · rintro j y σ H5 hj ⟨v5',rfl,h5d,kb⟩;obtain ⟨z,hz,rfl⟩:=y9 hj;have hjl:j < (w9 p i L).length:=(ec0.mp hz).1;rw[A2] at hjl
         have hzn:z∉rs.flatten++(w9 p i L).take j:=by
           intro hm'
           rcases ed8.mp hm' with g|g
           · exact fr z (ec4 hz) g
           · obtain ⟨jj,hjj⟩:=eh1.mp g
             have hjk:jj < j:=by
               have:=(ec0.mp hjj).1;rw[ed3] at this;omega
             rw[eg1 hjk] at hjj;have e1:=(ec0.mp hjj).2;have e2:=(ec0.mp hz).2;exact ef8.mp (ee6.mp ndr) jj j (by rw[A2];omega) (by rw[A2];omega) hjk (by rw[e1,e2])
         refine ⟨_,rfl,_,rfl,d,_,rfl,ay1.k (k:=Sum.inl z) h5d (p9 (by unfold R9;rw[eb8,ec2,ed3,A2];omega)),?_⟩;refine ⟨_,rfl,?_,kb.upd_a⟩;rw[bl7 hzn,c9,n6 hz,ee7]
       · rintro σ H5 ⟨v5',rfl,h5d,kb⟩;rw[eb8,ee1] at h5d
         have nad:∀b∈as,b≠d/\b≠l:=fun b hb=>by
           obtain ⟨r,hr'⟩:=az6 rows hb;exact ⟨de8 hr' h2d (by intro z;cases z),fun z=>nla (z▸hb)⟩
         refine ⟨as++[e],rs++[w9 p i L],_,_,_,rfl,kb l _ h4l hdl.symm,?_,?_,am7 tp up hx pr hm,?_,?_,?_,?_⟩
         · rw[h5d,eg3,ei8]
         · exact W4 (O0 rows fun b hb o ho=>kb b o (k4 b o ho (nad b hb).2) (nad b hb).1) (kb e _ h4e nde.symm)
         · exact fun b o hb=>kb b o (k4 b o (s2 b o hb) (i4 hb hl)) (i4 hb hd0)
         · intro b hb
           rcases ed8.mp hb with g|g
           · exact fa b g
           · have:b=e:=by simpa using g
             rw[this];exact s2.free he
         · refine au9 nda fun g=> ?_
           obtain ⟨r,hr'⟩:=az6 rows g;rw[he] at hr';cases hr'
         · intro g
           rcases ed8.mp g with g|g
           · exact nla g
           · exact nle (by simpa using g)
   · rintro σ H2 ⟨as,rs,v3,v4,v5,rfl,h2l,h2d,rows,up,s2,fa,nda,nla⟩;exact ⟨_,rfl,q l as rs H2 hl s2 h2l rows up fa nda nla⟩
end
end My
namespace My
open PySem L2 Mth
section
variable {P:Program} {w:World} {K:PySem.W.Frag} {mg:Str->Option Value} {base:Heap}
def bv1:Sp:=fun vs H Q _=>∃(t r:Addr) (ts rs:List Int) (k:Int),vs=[.ref t,.ref r,.int k]/\H t=some (.lst (ts.map V.int))/\H r=some (.lst (rs.map V.int))/\t≠r/\rs.Nodup/\(∀x∈rs,0<=x/\x < ts.length)/\
 ∀(ts':List Int) (H':Hp),ts'.length=ts.length->(∀j,j < rs.length->A4 ts' (rs.getD j 0)=some (rs.getD (((j:Int)+k)%(rs.length:Int)).toNat 0))->(∀u,0<=u->u∉rs->A4 ts' u=A4 ts u)->H' t=some (.lst (ts'.map V.int))->o5 t H H'->Q .non H'
theorem bv2:m9 ["target","ring","steps","place","thing"] ["target","ring","steps"] (j6 ae4):=by rfl'
theorem dk5 {f:Addr}{fd:FuncData}(F:x6 K "send_along" "send_along" ae4 f fd)(B:Bl mg):n5 P w K mg base y7 1 f fd ["target","ring","steps"] bv1:=by
 refine F.ok bv2 (fun vs H Q E h=> ?_) (fun cdv A outer s H vs Q E hr h=> ?_)
 · obtain ⟨t,r,ts,rs,k,rfl,_⟩:=h;rfl
 · obtain ⟨t,r,ts,rs,k,rfl,ht,hrr,ntr,nd,bd,q⟩:=h
   refine ⟨_,c8 (A7 PassesOwn.never rfl (bg5 B.enum (c5 (pv 1) c6)) (ad1 rfl (E6 (o7 (i:=3) bv2.nd rfl (Or.inl rfl)) (E6 (o7 (i:=4) bv2.nd rfl (Or.inl rfl)) Y4)))
     (c8 (ad3 (p8 o0 (pv 1) (q0 K6 (q0 Q4 (pv 3) (pv 2)) (x9 B.len (c5 (pv 1) c6))) (fun _ _=>rfl)) (ad2 (pv 0) (pv 4) V3)))),?_⟩
   refine ⟨_,rfl,r,rfl,⟨_,i5.of hrr⟩,ay5 (K:=K) (a:=r) (xs:=rs.map V.int) (fun i σ H2=>∃(ts':List Int) (v3 v4:Option V),σ=[some (.ref t),some (.ref r),some (.int k),v3,v4]/\H2 t=some (.lst (ts'.map V.int))/\ts'.length=ts.length/\(∀j,j < i->A4 ts' (rs.getD j 0)=some (rs.getD (((j:Int)+k)%(rs.length:Int)).toNat 0))/\(∀u,0<=u->u∉rs->A4 ts' u=A4 ts u)/\o5 t H H2)
     ⟨ts,none,none,rfl,ht,rfl,fun j hj=>by omega,fun u _ _=>rfl,o5.refl t H⟩ (fun i σ H2 _ zz=>by obtain ⟨_,_,_,_,_,_,_,_,k⟩:=zz;exact i5.of (k r _ hrr ntr.symm)) ?_ ?_⟩
   · rintro i y σ H2 tt hi ⟨ts',v3,v4,rfl,h2t,hl,hj,hu,kb⟩ htt;obtain ⟨z,hz,rfl⟩:=y9 hi;have hil:i < rs.length:=(ec0.mp hz).1;have h2r:=kb r _ hrr ntr.symm;have nt:t≠tt:=i4 h2t htt;have nr:r≠tt:=i4 h2r htt
     have h3r:(i8 H2 tt (.tup [.int (i:Int),.int z])) r=some (.lst (rs.map V.int)):=by rw[i6 nr];exact h2r
     have h3t:(i8 H2 tt (.tup [.int (i:Int),.int z])) t=some (.lst (ts'.map V.int)):=by rw[i6 nt];exact h2t
     have L0:(0:Int) < (rs.length:Int):=by omega
     have m0:=eg6 ((i:Int)+k) (show (rs.length:Int)≠0 by omega);have m1:=ei5 ((i:Int)+k) L0;refine ⟨tt,_,rfl,M6.of c9,rfl,_,_,rfl,_,_,rfl,rfl,?_⟩;refine ⟨_,rfl,_,rfl,_,rfl,_,_,rfl,rfl,_,rfl,r,_,rfl,.inl (i5.of h3r),?_⟩;rw[eb8];refine ⟨_,_,rfl,rfl,L0,r,_,_,_,rfl,rfl,i5.of h3r,M3 m0 m1,?_⟩;obtain ⟨z0,z1⟩:=bd z (ec4 hz);refine ⟨_,rfl,_,rfl,t,_,_,z.toNat,rfl,rfl,h3t,?_,?_⟩
     · unfold U1;rw[eb8,if_pos z0,if_pos (by omega)]
     have es:(ts'.map V.int).set z.toNat (.int (rs.getD (((i:Int)+k)%(rs.length:Int)).toNat 0))=(ts'.set z.toNat (rs.getD (((i:Int)+k)%(rs.length:Int)).toNat 0)).map V.int:=by rw[ep4]
     rw[es]
     have hzi:rs.getD i 0=z:=by rw[B0 hil];exact (ec0.mp hz).2
     refine ⟨_,_,_,rfl,c9,by rw[el1];exact hl,fun j hji=> ?_,fun u u0 un=> ?_,fun b o hb hn=> ?_⟩
     · by_cases e:j=i
       · subst e;rw[hzi,Z0 (by omega)]
       · have hjl:j < rs.length:=by omega
         have:rs.getD j 0≠z:=by rw[<-hzi];exact S4 nd hjl hil e
         rw[U5 (bd _ (by rw[B0 hjl];exact ee5 hjl)).1 z0 this];exact hj j (by omega)
     · rw[U5 u0 z0 (fun e=>un (e▸ec4 hz))];exact hu u u0 un
     · have:=kb b o hb hn;rw[i6 hn,i6 (i4 this htt)];exact this
   · rintro σ H2 ⟨ts',v3,v4,rfl,h2t,hl,hj,hu,kb⟩;rw[eb8] at hj;exact q ts' H2 hl hj hu h2t kb
end
end My
namespace My
open PySem L2 Mth
section
variable {P:Program} {w:World} {K:PySem.W.Frag} {mg:Str->Option Value} {base:Heap}
theorem cl1:m9 ["p"] ["p"] (j6 ai3):=by rfl'
theorem cb7 {f:Addr}{fd:FuncData}(F:x6 K "rounds_of" "rounds_of" ai3 f fd)(cM:m8 P w K mg base "must_be_turn" 3 ["thing"] af3)(cR:m8 P w K mg base "walk_rings" 2 ["p"] J0):n5 P w K mg base y7 4 f fd ["p"] J0:=by
 refine F.ok cl1 (fun vs H Q E h=> ?_) (fun cdv A outer s H vs Q E hr h=> ?_)
 · obtain ⟨a,p,rfl,_⟩:=h;rfl
 · obtain ⟨a,p,rfl,⟨ha,tp,lp⟩,q⟩:=h;refine ⟨_,c7 (x8 (i7 cM hr (c5 (pv 0) c6))) (c8 (j5 (i7 cR (hr.mono (by decide)) (c5 (pv 0) c6)))),?_⟩;refine ⟨_,rfl,a,p,rfl,⟨ha,tp,lp⟩,fun H1 s1=> ?_⟩;exact ⟨_,rfl,a,p,rfl,⟨s1 a _ ha,tp,lp⟩,fun l as rs H' hl s' h1 h2 h3 h4 h5 h6=>q l as rs H' (s1.free hl) (s1.trans s') h1 h2 h3 (fun b hb=>s1.free (h4 b hb)) h5 h6⟩
end
end My
namespace My
open PySem L2 Mth
section
variable {P:Program} {w:World} {K:PySem.W.Frag} {mg:Str->Option Value} {base:Heap}
def bq1:Sp:=fun vs H Q _=>∃(x y:Nat),vs=[.int (x:Int),.int (y:Int)]/\Q (.int (ee4 x y:Nat)) H
theorem bq2:m9 ["a","b","rest"] ["a","b"] (j6 X1):=by rfl'
def bv3 (σ:St):Nat:=match σ[1]? with
 |some (some (V.int i))=>i.toNat
 |_=>0
theorem dq6 {f:Addr}{fd:FuncData}(F:x6 K "greatest_part" "greatest_part" X1 f fd):n5 P w K mg base y7 1 f fd ["a","b"] bq1:=by
 refine F.ok bq2 (fun vs H Q E h=> ?_) (fun cdv A outer s H vs Q E hr h=> ?_)
 · obtain ⟨x,y,rfl,_⟩:=h;rfl
 · obtain ⟨x,y,rfl,q⟩:=h
   refine ⟨_,c7 (V0 PassesOwn.never (j9 J3 (pv 1) j4 (j8 _))
       (c7 (m6 (i:=2) bq2.nd rfl (Or.inl rfl) (q0 K6 (pv 0) (pv 1))) (c7 (m6 (i:=0) bq2.nd rfl (Or.inl rfl) (pv 1)) (c8 (m6 (i:=1) bq2.nd rfl (Or.inl rfl) (pv 2))))))
     (c8 (j5 (pv 0))),?_⟩
   refine ax7 (fun σ H2=>∃(a b:Nat) (v:Option V),σ=[some (.int (a:Int)),some (.int (b:Int)),v]/\ee4 a b=ee4 x y/\H2=H) (fun σ _=>bv3 σ) ⟨x,y,none,rfl,rfl,rfl⟩ ?_ ?_
   · rintro σ H2 ⟨a,b,v,rfl,hg,rfl⟩;refine ⟨_,rfl,rfl,_,rfl,?_⟩
     by_cases hb:b=0
     · subst hb;refine R8 (by rfl) ?_;refine ⟨_,rfl,?_⟩;rw[Nat.gcd_zero_right] at hg;rw[hg];exact q
     · have hb':¬V.int (b:Int)=V.int 0:=fun z=>hb (by have:=V.int.inj z;omega)
       rw[decide_eq_false hb'];refine A8 ?_;refine ⟨_,rfl,_,rfl,_,_,rfl,rfl,(by show (0:Int) < (b:Int);omega),_,rfl,_,rfl,⟨b,a%b,some (.int ((a:Int)%(b:Int))),?_,?_,rfl⟩,?_⟩
       · rw[ei1];rfl
       · rw[<-hg,et8 a b,Nat.gcd_rec b a,et8]
       · show ((a:Int)%(b:Int)).toNat < ((b:Int)).toNat;have:=ei5 (a:Int) (show (0:Int) < (b:Int) by omega);have:=eg6 (a:Int) (show (b:Int)≠0 by omega);omega
   · rintro σ H2 Q Q' hq ⟨v,hv,e1,k1,e2,e3⟩;exact ⟨v,hv,e1,k1,e2,hq _ _ e3⟩
end
end My
namespace My
open PySem L2 Mth
section
variable {P:Program} {w:World} {K:PySem.W.Frag} {mg:Str->Option Value} {base:Heap}
noncomputable def C9 (p:List Int):List Int:=(w5 p p.length).map fun r=>(r.length:Int)
def R4:Sp:=fun vs H Q _=>∃(a:Addr) (p:List Int),vs=[.ref a]/\r9 H a p/\∀(l:Addr) (ms:List Int) (H':Hp),H l=none->e8 H H'->ms.Perm (C9 p)->ms.Pairwise (· ≥ ·)->(∀x∈ms,1<=x/\x<=40)->ms.length<=40->H' l=some (.lst (ms.map V.int))->Q (.ref l) H'
theorem dq7:m9 ["p"] ["p"] (j6 as7):=by rfl'
theorem dq8:(["ring"]:List Str).Nodup:=by decide+kernel
theorem bh4 {p:List Int}{rs:List (List Int)}(tp:A1 p)(lp:p.length<=40)(up:C4 p p.length rs):(∀x∈rs.map (fun r=>(r.length:Int)),1<=x/\x<=40)/\rs.length<=40:=by
 refine ⟨fun x hx=> ?_,by have:=V8 up;have:=ak2 tp up;omega⟩;obtain ⟨r,hr,rfl⟩:=ee3.mp hx;obtain ⟨y,L,hy,pr,er,_⟩:=up.ring r hr
 have:=O2 tp hy (m:=L) fun i i0 i1=>pr.least i i0 i1
 have:=pr.pos;rw[er,A2];omega
theorem dk6 {f:Addr}{fd:FuncData}(F:x6 K "kind_of" "kind_of" as7 f fd)(B:Bl mg)(bs:mg "sorted"=none)(cR:m8 P w K mg base "rounds_of" 4 ["p"] J0):n5 P w K mg base y7 5 f fd ["p"] R4:=by
 refine F.ok dq7 (fun vs H Q E h=> ?_) (fun cdv A outer s H vs Q E hr h=> ?_)
 · obtain ⟨a,p,rfl,_⟩:=h;rfl
 · obtain ⟨a,p,rfl,⟨ha,tp,lp⟩,q⟩:=h;refine ⟨_,c8 (j5 (bs8 bs (c5 (G9 (N:=["ring"]) (nl:=1) (fr:=[]) rfl .of (A0 (i7 cR hr (c5 (pv 0) c6))) (fun _ _ _ _ _=>o7 (i:=0) dq8 rfl (Or.inl rfl)) (fun _ _ _ _ _=>B7) (fun _ _ _ _ _=>ae0 K B.len (c5 (pv 0) c6))) c6))),?_⟩;refine ⟨_,rfl,a,p,rfl,⟨ha,tp,lp⟩,fun l as rs H1 hl s1 h1l rows up fa nda nla=> ?_⟩;obtain ⟨bd,lrs⟩:=bh4 tp lp up;refine ⟨l,rfl,⟨_,i5.of h1l⟩,C0 (K:=K) (a:=l) (xs:=as.map V.ref) (fun i ys σ H2=>∃v:Option V,σ=[v]/\H2=H1/\ys=((rs.take i).map fun r=>(r.length:Int)).map V.int) ⟨none,rfl,rfl,rfl⟩ (fun i ys σ H2 _ zz=>by obtain ⟨_,_,e,_⟩:=zz;rw[e];exact i5.of h1l) ?_ ?_⟩
   · rintro i y ys σ H2 hi ⟨v,rfl,rfl,rfl⟩;rw[ec1] at hi
     cases hA:as[i]? with
     |none=>rw[hA] at hi;cases hi
     |some e=>
      rw[hA] at hi;cases hi;have hil:i < as.length:=(ec0.mp hA).1;have hri:rs[i]? =some (rs[i]'(by rw[<-rows.1];exact hil)):=eb9 _;generalize (rs[i]'(by rw[<-rows.1];exact hil))=r at hri;have he:=rows.2 i e r hA hri;refine ⟨_,rfl,e,_,rfl,.inl (i5.of he),p9 (by rw[eb8,eb8,ed3];omega),_,rfl,rfl,?_⟩;rw[n6 hri,ec3,ec3,eb8];rfl
   · rintro ys σ H2 ⟨v,rfl,rfl,rfl⟩ D hD;rw[eb8,rows.1,ee1];have s2:e8 H2 (i8 H2 D (.lst ((rs.map fun r=>(r.length:Int)).map V.int))):=e8.upd_new hD;refine ⟨D,_,rfl,i5.of c9,by rw[eb8];omega,fun ms l2 pm srt hl2=> ?_⟩
     have hlD:l2≠D:=fun z=>by rw[z,c9] at hl2;cases hl2
     have hl22:H2 l2=none:=by rw[i6 hlD] at hl2;exact hl2
     have ek:rs.map (fun r=>(r.length:Int))=C9 p:=by unfold C9;rw[<-up.eq]
     refine q l2 ms _ (s1.free hl22) ((s1.trans s2).upd_r (s1.free hl22)) (by rw[<-ek];exact pm) srt (fun x hx=>bd x (pm.mem_iff.mp hx)) (by rw[pm.length_eq,eb8];exact lrs) c9
end
end My
namespace My
open PySem L2 Mth
section
variable {P:Program} {w:World} {K:PySem.W.Frag} {mg:Str->Option Value} {base:Heap}
def aa8:Sp:=fun vs H Q _=>∃(a:Addr) (p:List Int),vs=[.ref a]/\r9 H a p/\∀(h:Nat) (H':Hp),e8 H H'->P7 ((C9 p).map el8) h->Q (.int (h:Int)) H'
theorem bd8:m9 ["p","home","length"] ["p"] (j6 as8):=by rfl'
theorem dk7 {f:Addr}{fd:FuncData}(F:x6 K "home_of" "home_of" as8 f fd)(cK:m8 P w K mg base "kind_of" 5 ["p"] R4)(cG:m8 P w K mg base "greatest_part" 1 ["a","b"] bq1):n5 P w K mg base y7 6 f fd ["p"] aa8:=by
 refine F.ok bd8 (fun vs H Q E h=> ?_) (fun cdv A outer s H vs Q E hr h=> ?_)
 · obtain ⟨a,p,rfl,_⟩:=h;rfl
 · obtain ⟨a,p,rfl,⟨ha,tp,lp⟩,q⟩:=h
   refine ⟨_,c7 (m6 (i:=1) bd8.nd rfl (Or.inl rfl) j4)
     (c7 (A7 PassesOwn.never rfl (A0 (i7 cK hr (c5 (pv 0) c6))) (o7 (i:=2) bd8.nd rfl (Or.inl rfl)) (c8 (m6 (i:=1) bd8.nd rfl (Or.inl rfl) (q0 O5 (q0 dh3 (pv 1) (i7 cG (hr.mono (by decide)) (c5 (pv 1) (c5 (pv 2) c6)))) (pv 2)))))
     (c8 (j5 (pv 1)))),?_⟩
   refine ⟨_,rfl,a,p,rfl,⟨ha,tp,lp⟩,fun l ms H1 hl s1 pm srt bd lm h1l=> ?_⟩;refine ⟨l,rfl,⟨_,i5.of h1l⟩,E7 (K:=K) (a:=l) (xs:=ms.map V.int) (fun i σ H2=>∃(h:Nat) (v:Option V),σ=[some (.ref a),some (.int (h:Int)),v]/\H2=H1/\P7 ((ms.take i).map el8) h) ⟨1,none,rfl,rfl,P7.nil⟩ (fun i σ H2 _ zz=>by obtain ⟨_,_,_,e,_⟩:=zz;rw[e];exact i5.of h1l) ?_ ?_⟩
   · rintro i y σ H2 hi ⟨h,v,rfl,rfl,lc⟩;obtain ⟨z,hz,rfl⟩:=y9 hi;obtain ⟨z1,z2⟩:=bd z (ec4 hz);obtain ⟨zn,rfl⟩:=ef0 (show 0<=z by omega);have hpos:=lc.pos;have g0:0 < ee4 h zn:=ek5 _ hpos;have g1:ee4 h zn<=zn:=ej1 (by omega) (ek1 h zn);refine ⟨_,rfl,_,rfl,_,rfl,h,zn,rfl,_,_,rfl,rfl,⟨by omega,by omega⟩,_,rfl,_,_,rfl,rfl,.inr ⟨by omega,by omega⟩,?_⟩;refine ⟨es5 h zn,some (.int (zn:Int)),?_,rfl,?_⟩
     · have e:(h:Int)/(ee4 h zn:Int)*(zn:Int)=((es5 h zn:Nat):Int):=by
         rw[<-di7,el2,eq2]
       show [some (V.ref a),some (V.int ((h:Int)/(ee4 h zn:Int)*(zn:Int))),some (V.int (zn:Int))]=_;rw[e]
     · rw[n6 hz,ec3];exact lc.snoc (by omega)
   · rintro σ H2 ⟨h,v,rfl,rfl,lc⟩;rw[eb8,ee1] at lc;exact ⟨_,rfl,q h H2 s1 (lc.perm (pm.symm.map _))⟩
end
end My
namespace My
open PySem L2 Mth
section
variable {P:Program} {w:World} {K:PySem.W.Frag} {mg:Str->Option Value} {base:Heap}
def az7:Sp:=fun vs H Q _=>∃(l:Addr) (as:List Addr) (rs:List (List Int)),vs=[.ref l]/\H l=some (.lst (as.map V.ref))/\C8 H as rs/\(∀r∈rs,r≠[])/\Q (.bl true) H
theorem bv4:m9 ["rounds","ring"] ["rounds"] (j6 R3):=by rfl'
theorem cv0 {f:Addr}{fd:FuncData}(F:x6 K "are_filled_lists" "are_filled_lists" R3 f fd)(B:Bl mg):n5 P w K mg base y7 1 f fd ["rounds"] az7:=by
 refine F.ok bv4 (fun vs H Q E h=> ?_) (fun cdv A outer s H vs Q E hr h=> ?_)
 · obtain ⟨l,as,rs,rfl,_⟩:=h;rfl
 · obtain ⟨l,as,rs,rfl,hl,rows,hne,q⟩:=h
   refine ⟨_,c7 (o6 (K5 (G8 (aa6 B.isi (c5 (pv 0) (c5 (ar7 B.list) c6))))) (c8 (j5 E5)) k7)
     (c7 (A7 PassesOwn.never rfl (A0 (pv 0)) (o7 (i:=1) bv4.nd rfl (Or.inl rfl))
       (c8 (o6 (R5 (K5 (G8 (aa6 B.isi (c5 (pv 1) (c5 (ar7 B.list) c6))))) (Q3 (j9 y8 (x9 B.len (c5 (pv 1) c6)) j4 (j8 _)))).pt (c8 (j5 E5)) k7)))
     (c8 (j5 E5))),?_⟩
   refine ⟨_,rfl,_,"list",_,true,rfl,.lst hl,Q6 K "list",true,rfl,?_⟩;refine n9 ?_;refine ⟨_,rfl,l,rfl,⟨_,i5.of hl⟩,E7 (K:=K) (a:=l) (xs:=as.map V.ref) (fun i σ H2=>∃v:Option V,σ=[some (.ref l),v]/\H2=H) ⟨none,rfl,rfl⟩ (fun i σ H2 _ zz=>by obtain ⟨_,_,e⟩:=zz;rw[e];exact i5.of hl) ?_ (fun σ H2 zz=>by obtain ⟨v,_,e⟩:=zz;rw[e];exact q)⟩;rintro i y σ H2 hi ⟨v,rfl,rfl⟩;rw[ec1] at hi
   cases hA:as[i]? with
   |none=>rw[hA] at hi;cases hi
   |some e=>
    rw[hA] at hi;cases hi;have hil:i < as.length:=(ec0.mp hA).1;have hri:rs[i]? =some (rs[i]'(by rw[<-rows.1];exact hil)):=eb9 _;generalize (rs[i]'(by rw[<-rows.1];exact hil))=r at hri;have he:=rows.2 i e r hA hri;have hrn:=hne r (ec4 hri);refine ⟨_,rfl,_,"list",_,true,rfl,.lst he,Q6 K "list",true,rfl,?_⟩;refine n9 ⟨_,rfl,e,_,rfl,.inl (i5.of he),rfl,_,rfl,?_⟩
    have hnz:¬V.int (((r.map V.int).length:Nat):Int)=V.int 0:=fun z=>by
      have z:=V.int.inj z;rw[eb8] at z;have:=List.length_pos_iff.mpr hrn;omega
    rw[decide_eq_false hnz];exact n9 ⟨_,rfl,rfl⟩
def az8:Sp:=fun vs H Q _=>∃(l:Addr) (as:List Addr) (rs:List (List Int)),vs=[.ref l]/\H l=some (.lst (as.map V.ref))/\C8 H as rs/\rs.flatten.length<=1000/\
 ∀(o:Addr) (H':Hp),H o=none->e8 H H'->H' o=some (.lst (rs.flatten.map V.int))->Q (.ref o) H'
theorem az9:m9 ["rounds","things","ring"] ["rounds"] (j6 ai4):=by rfl'
theorem bv5 (rs:List (List Int))(i:Nat):(rs.take i).flatten.length<=rs.flatten.length:=by
 conv=>rhs;rw[<-ek9 i rs,eg3,ec2]
 omega
theorem cv1 {f:Addr}{fd:FuncData}(F:x6 K "things_in" "things_in" ai4 f fd):n5 P w K mg base y7 1 f fd ["rounds"] az8:=by
 refine F.ok az9 (fun vs H Q E h=> ?_) (fun cdv A outer s H vs Q E hr h=> ?_)
 · obtain ⟨l,as,rs,rfl,_⟩:=h;rfl
 · obtain ⟨l,as,rs,rfl,hl,rows,hb,q⟩:=h
   refine ⟨_,c7 (m6 (i:=1) az9.nd rfl (Or.inl rfl) (A6 c6))
     (c7 (A7 PassesOwn.never rfl (A0 (pv 0)) (o7 (i:=2) az9.nd rfl (Or.inl rfl)) (c8 (x8 (cs6 (pv 1) (c5 (pv 2) c6)))))
     (c8 (j5 (pv 1)))),?_⟩
   refine ⟨ee2 _,fun o ho=> ?_⟩;have s0:e8 H (i8 H o (.lst [])):=e8.upd_new ho;refine ⟨_,rfl,l,rfl,⟨_,i5.of (s0 l _ hl)⟩,E7 (K:=K) (a:=l) (xs:=as.map V.ref) (fun i σ H2=>∃v:Option V,σ=[some (.ref l),some (.ref o),v]/\e8 H H2/\H2 o=some (.lst ((rs.take i).flatten.map V.int))) ⟨none,rfl,s0,c9⟩ (fun i σ H2 _ zz=>by obtain ⟨_,_,s,_⟩:=zz;exact i5.of (s l _ hl)) ?_ ?_⟩
   · rintro i y σ H2 hi ⟨v,rfl,s2,h2o⟩;rw[ec1] at hi
     cases hA:as[i]? with
     |none=>rw[hA] at hi;cases hi
     |some e=>
      rw[hA] at hi;cases hi;have hil:i < as.length:=(ec0.mp hA).1;have hri:rs[i]? =some (rs[i]'(by rw[<-rows.1];exact hil)):=eb9 _;generalize (rs[i]'(by rw[<-rows.1];exact hil))=r at hri;have he:=s2 e _ (rows.2 i e r hA hri);have hle:=bv5 rs (i+1);rw[n6 hri,eg3,ei8,ec2] at hle;have h1000:=p9 (ec6 1000);refine ⟨_,rfl,.inl ⟨rfl,_,i5.of h2o⟩,_,rfl,o,e,_,_,rfl,rfl,h2o,he,by rw[eb8,eb8];omega,?_⟩;refine ⟨_,rfl,fun b u hb=>by rw[i6 (i4 hb ho)];exact s2 b u hb,?_⟩;rw[c9,n6 hri,eg3,ei8,ec3]
   · rintro σ H2 ⟨v,rfl,s2,h2o⟩;rw[eb8,rows.1,ee1] at h2o;exact ⟨_,rfl,q o H2 ho s2 h2o⟩
def be0:Sp:=fun vs H Q _=>∃(l:Addr) (as:List Addr) (rs:List (List Int)),vs=[.ref l]/\H l=some (.lst (as.map V.ref))/\C8 H as rs/\(∀r∈rs,r≠[])/\A1 rs.flatten/\rs.flatten.length<=40/\
 ∀(o:Addr) (t:List Int) (H':Hp),H o=none->e8 H H'->H' o=some (.lst (t.map V.int))->t.length=rs.flatten.length->(∀r∈rs,∀j,j < r.length->A4 t (r.getD j 0)=some (r.getD ((j+1)%r.length) 0))->Q (.ref o) H'
theorem bv6:m9 ["rounds","told","ring"] ["rounds"] (j6 ab3):=by rfl'
theorem dk8 {f:Addr}{fd:FuncData}(F:x6 K "from_rounds" "from_rounds" ab3 f fd)(cF:m8 P w K mg base "are_filled_lists" 1 ["rounds"] az7)(cT:m8 P w K mg base "things_in" 1 ["rounds"] az8)(cI:m8 P w K mg base "is_turn" 2 ["thing"] ao2)
   (cS:m8 P w K mg base "send_along" 1 ["target","ring","steps"] bv1):n5 P w K mg base y7 3 f fd ["rounds"] be0:=by
 refine F.ok bv6 (fun vs H Q E h=> ?_) (fun cdv A outer s H vs Q E hr h=> ?_)
 · obtain ⟨l,as,rs,rfl,_⟩:=h;rfl
 · obtain ⟨l,as,rs,rfl,hl,rows,hne,tf,lf,q⟩:=h;have hr1:m7 1 _:=hr.mono (by decide)
   refine ⟨_,c7 (o6 (K5 (G8 (i7 cF hr1 (c5 (pv 0) c6)))) (c8 J6) k7)
     (c7 (m6 (i:=1) bv6.nd rfl (Or.inl rfl) (i7 cT hr1 (c5 (pv 0) c6)))
     (c7 (o6 (K5 (G8 (i7 cI hr (c5 (pv 1) c6)))) (c8 J6) k7)
     (c7 (A7 PassesOwn.never rfl (A0 (pv 0)) (o7 (i:=2) bv6.nd rfl (Or.inl rfl)) (c8 (x8 (i7 cS hr1 (c5 (pv 1) (c5 (pv 2) (c5 j4 c6)))))))
     (c8 (j5 (pv 1)))))),?_⟩
   refine ⟨_,rfl,l,as,rs,rfl,hl,rows,hne,true,rfl,?_⟩;refine n9 ?_;refine ⟨_,rfl,l,as,rs,rfl,hl,rows,by omega,fun o H1 ho s1 h1o=> ?_⟩;refine ⟨_,rfl,o,_,rfl,h1o,fun bb H2 s2 hbb=>⟨bb,rfl,?_⟩⟩;have:bb=true:=hbb.mpr ⟨lf,tf⟩;subst this;refine n9 ?_;have s02:=s1.trans s2;have h2o:=s2 o _ h1o;have h2l:=s02 l _ hl
   have rows2:C8 H2 as rs:=O0 rows fun c _ u hu=>s02 c u hu
   have nlo:l≠o:=i4 hl ho
   refine ⟨_,rfl,l,rfl,⟨_,i5.of h2l⟩,E7 (K:=K) (a:=l) (xs:=as.map V.ref) (fun i σ H3=>∃(ts:List Int) (v:Option V),σ=[some (.ref l),some (.ref o),v]/\H3 o=some (.lst (ts.map V.int))/\ts.length=rs.flatten.length/\(∀r∈rs.take i,∀j,j < r.length->A4 ts (r.getD j 0)=some (r.getD ((j+1)%r.length) 0))/\o5 o H2 H3)
     ⟨_,none,rfl,h2o,rfl,fun r hr=>by simp at hr,o5.refl o H2⟩ (fun i σ H3 _ zz=>by obtain ⟨_,_,_,_,_,_,k⟩:=zz;exact i5.of (k l _ h2l nlo)) ?_ ?_⟩
   · rintro i y σ H3 hi ⟨ts,v,rfl,h3o,lts,hts,kb⟩;rw[ec1] at hi
     cases hA:as[i]? with
     |none=>rw[hA] at hi;cases hi
     |some e=>
      rw[hA] at hi;cases hi;have hil:i < as.length:=(ec0.mp hA).1;have hri:rs[i]? =some (rs[i]'(by rw[<-rows.1];exact hil)):=eb9 _;generalize hR:(rs[i]'(by rw[<-rows.1];exact hil))=r at hri
      have neo:o≠e:=fun z=>by
        have:=rows.2 i e r hA hri;rw[<-z,ho] at this;cases this
      have h3e:=kb e _ (rows2.2 i e r hA hri) neo.symm;have hrm:r∈rs:=ec4 hri
      have hsplit:rs.flatten=(rs.take i).flatten++(r++(rs.drop (i+1)).flatten):=by
        conv=>lhs;rw[<-ek9 i rs,eg3]
        rw[es8 (by rw[<-rows.1];exact hil),hR,ee8]
      have nds:=tf.nd;rw[hsplit] at nds;obtain ⟨nd1,nd2,nd3⟩:=eg5.mp nds;obtain ⟨ndr,_,_⟩:=eg5.mp nd2;refine ⟨_,rfl,_,rfl,o,e,ts,r,1,rfl,h3o,h3e,neo,ndr,fun x hx=> ?_,fun ts' H4 l4 hj hu h4o kb4=> ?_⟩
      · have hxf:x∈rs.flatten:=ef1.mpr ⟨r,hrm,hx⟩;exact ⟨tf.lo x hxf,by rw[lts];exact tf.hi x hxf⟩
      refine ⟨ts',_,rfl,h4o,by omega,fun r' hr' j hj'=> ?_,kb.trans kb4⟩;rw[n6 hri] at hr'
      rcases ed8.mp hr' with g|g
      · have hx:r'.getD j 0∈(rs.take i).flatten:=by
          rw[B0 hj'];exact ef1.mpr ⟨r',g,ee5 hj'⟩
        have hxn:r'.getD j 0∉r:=fun z=>nd3 _ hx _ (eg0 _ z) rfl
        have hx0:0<=r'.getD j 0:=tf.lo _ (by rw[hsplit];exact eg0 _ hx);rw[hu _ hx0 hxn];exact hts r' g j hj'
      · have:r'=r:=by simpa using g
        subst this;have h1:=hj j hj'
        have e1:(((j:Int)+1)%(r'.length:Int)).toNat=(j+1)%r'.length:=by
          have:((j:Int)+1)=((j+1:Nat):Int):=by omega
          rw[this,<-ei1,ed7]
        rw[e1] at h1;exact h1
   · rintro σ H3 ⟨ts,v,rfl,h3o,lts,hts,kb⟩;rw[eb8,rows.1,ee1] at hts;exact ⟨_,rfl,q o ts H3 ho (fun b u hb=>kb b u (s02 b u hb) (i4 hb ho)) h3o lts hts⟩
end
end My
namespace My
open PySem L2 Mth
section
variable {P:Program} {w:World} {K:PySem.W.Frag} {mg:Str->Option Value} {base:Heap}
def bq3:Sp:=fun vs H Q _=>∃(n:Int),vs=[.int n]/\1<=n/\Q .non H
theorem dv3:m9 ["number"] ["number"] (j6 Q9):=by rfl'
theorem dq9 {f:Addr}{fd:FuncData}(F:x6 K "must_be_from_one" "must_be_from_one" Q9 f fd)(cW:m8 P w K mg base "is_whole" 1 ["thing"] (av4 K)):n5 P w K mg base y7 2 f fd ["number"] bq3:=by
 refine F.ok dv3 (fun vs H Q E h=> ?_) (fun cdv A outer s H vs Q E hr h=> ?_)
 · obtain ⟨n,rfl,_⟩:=h;rfl
 · obtain ⟨n,rfl,h1,q⟩:=h;have hr1:m7 1 _:=hr.mono (by decide);refine ⟨_,c8 (o6 (R5 (K5 (G8 (i7 cW hr1 (c5 (pv 0) c6)))) (Q3 (j9 bp9 (pv 0) j4 (j8 _)))).pt (c8 J6) k7),?_⟩;refine ⟨_,rfl,.int n,_,true,false,rfl,.int n,Q6 K "int",ar6 K,true,rfl,?_⟩;refine n9 ⟨_,rfl,_,_,rfl,rfl,_,rfl,?_⟩;rw[decide_eq_false (show ¬n < 1 by omega)];exact n9 q
def dc3:Sp:=fun vs H Q _=>∃(l m:Nat),vs=[.int (l:Int),.int (m:Int)]/\1<=l/\l<=1000000000000000000000000000000/\1<=m/\m<=1000000000000000000000000000000/\∀d,P1 l m d->Q (.int ((d:Nat):Int)) H
theorem bv7:m9 ["l","m","least","common"] ["l","m"] (j6 ab4):=by rfl'
theorem dv4 {f:Addr}{fd:FuncData}(F:x6 K "least_right" "least_right" ab4 f fd)(c1:m8 P w K mg base "must_be_from_one" 2 ["number"] bq3)(cG:m8 P w K mg base "greatest_part" 1 ["a","b"] bq1):n5 P w K mg base y7 3 f fd ["l","m"] dc3:=by
 refine F.ok bv7 (fun vs H Q E h=> ?_) (fun cdv A outer s H vs Q E hr h=> ?_)
 · obtain ⟨l,m,rfl,_⟩:=h;rfl
 · obtain ⟨l,m,rfl,l1,l2,m1,m2,q⟩:=h;have hr1:m7 1 _:=hr.mono (by decide)
   refine ⟨_,c7 (x8 (i7 c1 hr (c5 (pv 0) c6))) (c7 (x8 (i7 c1 hr (c5 (pv 1) c6)))
     (c7 (m6 (i:=2) bv7.nd rfl (Or.inl rfl) j4) (c7 (m6 (i:=3) bv7.nd rfl (Or.inl rfl) (i7 cG hr1 (c5 (pv 0) (c5 (pv 1) c6))))
     (c7 (V0 PassesOwn.never (j9 au1 (pv 3) j4 (j8 _))
       (c7 (m6 (i:=2) bv7.nd rfl (Or.inl rfl) (q0 O5 (pv 2) (pv 3))) (c8 (m6 (i:=3) bv7.nd rfl (Or.inl rfl) (i7 cG hr1 (c5 (pv 0) (c5 (q0 am8 (pv 1) (pv 2)) c6)))))))
     (c8 (j5 (pv 2))))))),?_⟩
   refine ⟨_,rfl,(l:Int),rfl,by omega,?_⟩;refine ⟨_,rfl,(m:Int),rfl,by omega,?_⟩;refine ⟨_,rfl,_,rfl,l,m,rfl,?_⟩
   refine ⟨fun mm σ H2=>∃d:Nat,σ=[some (.int (l:Int)),some (.int (m:Int)),some (.int (d:Int)),some (.int ((ee4 l (m/d):Nat):Int))]/\Z1 l m d/\H2=H/\mm=m - d,
     ⟨m - 1,1,by rw[Nat.div_one];rfl,Z1.start l m,rfl,rfl⟩,?_⟩
   rintro mm σ H2 ⟨d,rfl,up,rfl,rfl⟩;have gle:ee4 l (m/d)<=l:=Nat.gcd_le_left _ l1;refine ⟨_,rfl,_,_,rfl,rfl,_,rfl,?_⟩;refine Y8 (fun hg=> ?_) (fun hg=> ?_)
   · have hg:(1:Int) < ((ee4 l (m/d):Nat):Int):=of_decide_eq_true hg
     have hg1:ee4 l (m/d)≠1:=by omega
     obtain ⟨mo1,mo2⟩:=up.more (by omega) hg1;have up':=up.step (by omega);refine ⟨fun σ' H'=>∃m',m' < m - d/\_,fun _ _ h=>h,?_⟩
     have small:d < 18446744073709551616\/ee4 l (m/d) < 18446744073709551616:=by
       rcases ep2 d 18446744073709551616 with z|z
       · exact .inl z
       · rcases ep2 (ee4 l (m/d)) 18446744073709551616 with y|y
         · exact .inr y
         · have:=Nat.mul_le_mul z y;omega
     refine ⟨_,rfl,_,rfl,_,_,rfl,rfl,(by rcases small with z|z;exact .inl ⟨by omega,by omega⟩;exact .inr ⟨by omega,by omega⟩),?_⟩;have e1:((d:Nat):Int)*((ee4 l (m/d):Nat):Int)=((d*ee4 l (m/d):Nat):Int):=(el2 _ _).symm;have dp:=up'.pos;refine ⟨_,rfl,_,rfl,_,rfl,_,_,rfl,rfl,⟨by rw[e1];omega,by rw[e1];omega⟩,?_⟩
     have e2:(m:Int)/(((d:Nat):Int)*((ee4 l (m/d):Nat):Int))=((m/(d*ee4 l (m/d)):Nat):Int):=by rw[e1];exact (eq2 _ _).symm
     dsimp only
     rw[e2];refine ⟨l,m/(d*ee4 l (m/d)),rfl,?_⟩;refine ⟨m - d*ee4 l (m/d),by omega,d*ee4 l (m/d),?_,up',rfl,rfl⟩;show [some (V.int (l:Int)),some (V.int (m:Int)),some (V.int (((d:Nat):Int)*((ee4 l (m/d):Nat):Int))),some (V.int ((ee4 l (m/(d*ee4 l (m/d))):Nat):Int))]=_;rw[e1]
   · have hg:¬(1:Int) < ((ee4 l (m/d):Nat):Int):=fun z=>hg (decide_eq_true z)
     have kp:0 < m/d:=Nat.div_pos (ej1 (by omega) up.parts) up.pos;have gp:0 < ee4 l (m/d):=eo7 _ kp;exact ⟨_,rfl,q d (up.done (by omega))⟩
end
end My
namespace My
open PySem L2 Mth
section
variable {P:Program} {w:World} {K:PySem.W.Frag} {mg:Str->Option Value} {base:Heap}
theorem dc4 {T J F:List Int}{t:Nat}{u f:Int}(hT:A1 T)(hl:J.length=T.length)(hu:T[t]? =some u)(hf:F[t]? =some f)(h:(T.take t).map (A4 J)=(F.take t).map some):(T.take (t+1)).map (A4 (J.set u.toNat f))=(F.take (t+1)).map some:=by
 have ht:t < T.length:=(ec0.mp hu).1;have hum:=ec4 hu;have u0:=hT.lo u hum;have u1:=hT.hi u hum;rw[n6 hu,n6 hf,ec3,ec3]
 congr 1
 · rw[<-h]
   refine ej3 fun v hv=>U5 (hT.lo v (el5 hv)) u0 fun e=> ?_
   obtain ⟨j,hj⟩:=eh1.mp hv
   have hjt:j < t:=by
     have:=(ec0.mp hj).1;rw[ed3] at this;omega
   rw[eg1 hjt] at hj;have e1:=(ec0.mp hj).2;have e2:=(ec0.mp hu).2;exact ef8.mp (ee6.mp hT.nd) j t (by omega) ht hjt (by rw[e1,e2,e])
 · show [A4 (J.set u.toNat f) u]=[some f];rw[Z0 (by omega)]
def bv8:Sp:=fun vs H Q _=>∃(a:Addr) (bs:List Addr) (Rs:List (List Int)) (l k:Nat),vs=[.ref a,.int ((Rs.length*k:Nat):Int)]/\H a=some (.lst (bs.map V.ref))/\C8 H bs Rs/\1<=Rs.length/\(∀r∈Rs,r.length=l)/\0 < l/\Rs.length*l<=40/\ee4 l k=1/\
 ∀(o:Addr) (J:List Int) (H':Hp),H o=none->e8 H H'->H' o=some (.lst (J.map V.int))->ae1 l k Rs J->Q (.ref o) H'
theorem af5:m9 ["rings","m","whole","joined","lane","ring","step","thing"] ["rings","m"] (j6 ae5):=by rfl'
theorem dk9 {f:Addr}{fd:FuncData}(F:x6 K "join_rings" "join_rings" ae5 f fd)(B:Bl mg):n5 P w K mg base y7 1 f fd ["rings","m"] bv8:=by
 refine F.ok af5 (fun vs H Q E h=> ?_) (fun cdv A outer s H vs Q E hr h=> ?_)
 · obtain ⟨a,bs,Rs,l,k,rfl,_⟩:=h;rfl
 · obtain ⟨a,bs,Rs,l,k,rfl,ha,rows,d1,hRl,l0,dl,cop,q⟩:=h
   refine ⟨_,c7 (m6 (i:=2) af5.nd rfl (Or.inl rfl) (q0 O5 (x9 B.len (c5 (pv 0) c6)) (x9 B.len (c5 (p8 o0 (pv 0) j4 (fun _ _=>rfl)) c6))))
     (c7 (m6 (i:=3) af5.nd rfl (Or.inl rfl) (q0 ar2 (A6 (c5 j4 c6)) (pv 2)))
     (c7 (A7 PassesOwn.never rfl (bg5 B.enum (c5 (pv 0) c6)) (ad1 rfl (E6 (o7 (i:=4) af5.nd rfl (Or.inl rfl)) (E6 (o7 (i:=5) af5.nd rfl (Or.inl rfl)) Y4)))
       (c8 (A7 PassesOwn.never rfl (bg5 B.enum (c5 (pv 5) c6)) (ad1 rfl (E6 (o7 (i:=6) af5.nd rfl (Or.inl rfl)) (E6 (o7 (i:=7) af5.nd rfl (Or.inl rfl)) Y4)))
         (c8 (ad3 (pv 7) (ad2 (pv 3) (q0 K6 (q0 Q4 (pv 4) (q0 O5 (pv 6) (pv 1))) (pv 2)) V3))))))
     (c8 (j5 (pv 3))))),?_⟩
   have lb:bs.length=Rs.length:=rows.1;have dR:Rs.length<=Rs.length*l:=Nat.le_mul_of_pos_right _ l0;have lR:l<=Rs.length*l:=Nat.le_mul_of_pos_left _ (by omega);have hb0:bs[0]? =some (bs[0]'(by omega)):=eb9 _;generalize (bs[0]'(by omega))=b0 at hb0;have hr0:Rs[0]? =some (Rs[0]'(by omega)):=eb9 _;have lr0:(Rs[0]'(by omega)).length=l:=hRl _ (ee5 _);generalize (Rs[0]'(by omega))=r0 at hr0 lr0;have h0:=rows.2 0 b0 r0 hb0 hr0;refine ⟨_,rfl,a,_,rfl,.inl (i5.of ha),_,rfl,a,_,_,_,rfl,rfl,i5.of ha,o9 (j:=0) (by rw[ec1,hb0];rfl),b0,_,rfl,.inl (i5.of h0),_,_,rfl,rfl,.inl ⟨by rw[eb8];omega,by rw[eb8];omega⟩,?_⟩;rw[eb8,eb8,lb,lr0]
   dsimp only
   have ew:((Rs.length:Nat):Int)*((l:Nat):Int)=((Rs.length*l:Nat):Int):=(el2 _ _).symm;rw[ew];obtain ⟨D,hD⟩:∃D,D=Rs.length:=⟨_,rfl⟩;rw[<-hD] at d1 dl lb dR lR ⊢;obtain ⟨N,hN⟩:∃N,N=D*l:=⟨_,rfl⟩;rw[<-hN] at dl dR lR ⊢;refine ⟨(by show 1<=sizeLine;decide),fun e he=> ?_⟩;refine ⟨_,rfl,e,_,_,rfl,rfl,c9,by omega,by omega,by show 1*_<=sizeLine;rw[sizeLine_eq];omega,fun n hn=> ?_⟩;rw[show ((N:Nat):Int).toNat=N by omega,da4]
   have hne:n≠e:=fun z=>by rw[z,c9] at hn;cases hn
   have hn0:H n=none:=by rw[i6 hne] at hn;exact hn
   have s1:e8 H (i8 (i8 H e (.lst [.int 0])) n (.lst ((ed1 N (0:Int)).map V.int))):=(e8.upd_new he).upd_r hn0;have h1n:(i8 (i8 H e (.lst [.int 0])) n (.lst ((ed1 N (0:Int)).map V.int))) n=some (.lst ((ed1 N (0:Int)).map V.int)):=c9;generalize (i8 (i8 H e (.lst [.int 0])) n (.lst ((ed1 N (0:Int)).map V.int)))=H1 at s1 h1n ⊢;have T:=bt4 (d:=D) l0 cop;have lT:=ay7 D l k;obtain ⟨fl,fg⟩:=am9 l0 hRl
   refine ⟨_,rfl,a,rfl,⟨_,i5.of (s1 a _ ha)⟩,ay5 (K:=K) (a:=a) (xs:=bs.map V.ref) (fun i σ H2=>∃(J:List Int) (v4 v5 v6 v7:Option V),σ=[some (.ref a),some (.int ((D*k:Nat):Int)),some (.int ((N:Nat):Int)),some (.ref n),v4,v5,v6,v7]/\H2 n=some (.lst (J.map V.int))/\J.length=N/\((ai0 D l k).take (i*l)).map (A4 J)=(Rs.flatten.take (i*l)).map some/\e8 H H2)
     ⟨_,none,none,none,none,rfl,h1n,by rw[ei3],by rw[et6];rfl,s1⟩ (fun i σ H2 _ zz=>by obtain ⟨_,_,_,_,_,_,_,_,_,s⟩:=zz;exact i5.of (s a _ ha)) ?_ ?_⟩
   · rintro i y σ H2 t hi ⟨J,v4,v5,v6,v7,rfl,h2n,lJ,hmap,s2⟩ ht;rw[ec1] at hi
     cases hA:bs[i]? with
     |none=>rw[hA] at hi;cases hi
     |some b=>
      rw[hA] at hi;cases hi;have hil:i < bs.length:=(ec0.mp hA).1
      have hiD:i < D:=by omega
      have hri:Rs[i]? =some (Rs[i]'(by omega)):=eb9 _;have lri:(Rs[i]'(by omega)).length=l:=hRl _ (ee5 _);generalize (Rs[i]'(by omega))=r at hri lri;have hrow:=rows.2 i b r hA hri;have s23:e8 H2 (i8 H2 t (.tup [.int (i:Int),.ref b])):=e8.upd_new ht;refine ⟨t,_,rfl,M6.of c9,rfl,_,_,rfl,_,_,rfl,rfl,?_⟩;generalize (i8 H2 t (.tup [.int (i:Int),.ref b]))=H3 at s23 ⊢;have s3:=s2.trans s23;have h3b:=s3 b _ hrow
      refine ⟨_,rfl,b,rfl,⟨_,i5.of h3b⟩,ay5 (K:=K) (a:=b) (xs:=r.map V.int) (fun j σ H4=>∃(J:List Int) (v6 v7:Option V),σ=[some (.ref a),some (.int ((D*k:Nat):Int)),some (.int ((N:Nat):Int)),some (.ref n),some (.int (i:Int)),some (.ref b),v6,v7]/\H4 n=some (.lst (J.map V.int))/\J.length=N/\((ai0 D l k).take (i*l+j)).map (A4 J)=(Rs.flatten.take (i*l+j)).map some/\e8 H H4)
        ⟨J,v6,v7,rfl,s23 n _ h2n,lJ,hmap,s3⟩ (fun j σ H4 _ zz=>by obtain ⟨_,_,_,_,_,_,_,s⟩:=zz;exact i5.of (s b _ hrow)) ?_ ?_⟩
      · rintro j y σ H4 t2 hj ⟨J,v6,v7,rfl,h4n,lJ,hmap,s4⟩ ht2;obtain ⟨z,hz,rfl⟩:=y9 hj
        have hjl:j < l:=by rw[<-lri];exact (ec0.mp hz).1
        have s45:e8 H4 (i8 H4 t2 (.tup [.int (j:Int),.int z])):=e8.upd_new ht2;refine ⟨t2,_,rfl,M6.of c9,rfl,_,_,rfl,_,_,rfl,rfl,?_⟩;generalize (i8 H4 t2 (.tup [.int (j:Int),.int z]))=H5 at s45 ⊢;have h5n:=s45 n _ h4n
        have tlt:i*l+j < D*l:=by
          calc i*l+j < i*l+l:=by omega
            _=(i+1)*l:=by rw[ej7]
            _<=D*l:=en7 l hiD
        have dv1:(i*l+j)/l=i:=by rw[ej0,eu2 l0,et1 hjl,Nat.add_zero]
        have dv2:(i*l+j)%l=j:=by rw[ej0,Nat.mul_add_mod,ef9 hjl]
        have hTt:(ai0 D l k)[i*l+j]? =some ((L9 D l k i j:Nat):Int):=by
          unfold ai0;rw[ec1,ej4 tlt];show some ((L9 D l k ((i*l+j)/l) ((i*l+j)%l):Nat):Int)=_;rw[dv1,dv2]
        have hFt:Rs.flatten[i*l+j]? =some z:=by
          rw[fg i j (by omega) hjl,ed0,hri];exact hz
        have ep:((i:Int)+(j:Int)*((D*k:Nat):Int))%((N:Nat):Int)=((L9 D l k i j:Nat):Int):=by
          rw[<-cf7 hiD l0,<-el2,<-Int.natCast_add,<-ei1,hN]
        have plt:L9 D l k i j < D*l:=av2 hiD l0;refine ⟨_,rfl,_,rfl,_,rfl,_,rfl,_,rfl,_,_,rfl,rfl,.inl ⟨by omega,by omega⟩,_,_,rfl,rfl,_,rfl,_,_,rfl,rfl,(by show (0:Int) < (N:Int);omega),?_⟩
        dsimp only
        rw[ep];refine ⟨n,_,_,L9 D l k i j,rfl,rfl,h5n,?_,?_⟩
        · unfold U1;rw[eb8,if_pos (by omega),if_pos (by omega)];rfl
        have es:(J.map V.int).set (L9 D l k i j) (.int z)=(J.set (L9 D l k i j) z).map V.int:=by rw[ep4]
        rw[es];refine ⟨_,_,_,rfl,c9,by rw[el1];exact lJ,?_,fun c o hc=>by rw[i6 (i4 hc hn0)];exact s45 c o (s4 c o hc)⟩;have:=dc4 (J:=J) T (by rw[lT];omega) hTt hFt hmap;rw[ed7] at this;exact this
      · rintro σ H4 ⟨J,v6,v7,rfl,h4n,lJ,hmap,s4⟩;rw[eb8,lri] at hmap;refine ⟨J,_,_,_,_,rfl,h4n,lJ,?_,s4⟩;rw[ej7];exact hmap
   · rintro σ H2 ⟨J,v4,v5,v6,v7,rfl,h2n,lJ,hmap,s2⟩;rw[eb8,lb,eh3 (by rw[lT];exact ec6 _),eh3 (by rw[fl,<-hD];exact ec6 _)] at hmap;refine ⟨_,rfl,q n J H2 hn0 s2 h2n ⟨by rw[lJ,hN,hD],by rw[<-hD];exact hmap⟩⟩
end
end My
namespace My
open PySem L2 Mth
section
variable {P:Program} {w:World} {K:PySem.W.Frag} {mg:Str->Option Value} {base:Heap}
def B5 (es:List (Nat×Addr)):List (x5×V):=es.map fun e=>(Sum.inl (e.1:Int),V.ref e.2)
theorem bv9 {es:List (Nat×Addr)}{l:Nat}{v:V}(h:B8 (B5 es) (Sum.inl (l:Int))=some v):∃e∈es,e.1=l/\v= .ref e.2:=by
 unfold B8 at h
 cases hf:(B5 es).find? (fun kv=>decide (kv.1=Sum.inl (l:Int))) with
 |none=>rw[hf] at h;cases h
 |some kv=>
  rw[hf] at h;have hk:=of_decide_eq_true (List.find?_some (p:=fun kv:x5×V=>decide (kv.1=Sum.inl (l:Int))) hf);obtain ⟨e,he,rfl⟩:=ee3.mp (es9 hf);have hk':(Sum.inl (e.1:Int):x5)=Sum.inl (l:Int):=hk;have:=Sum.inl.inj hk';exact ⟨e,he,by omega,(Option.some.inj h).symm⟩
theorem bw0 {es:List (Nat×Addr)}{l:Nat}(h:B8 (B5 es) (Sum.inl (l:Int))=none):l∉es.map (·.1):=by
 intro hm;obtain ⟨e,he,rfl⟩:=ee3.mp hm;unfold B8 at h;have h':=Option.map_eq_none_iff.mp h;exact List.find?_eq_none.mp h' (Sum.inl (e.1:Int),V.ref e.2) (ee3.mpr ⟨e,he,rfl⟩) (by simp)
theorem bh5 {α β:Type}:∀{es:List (α×β)},(es.map (·.1)).Nodup->∀{e f:α×β},e∈es->f∈es->e.1=f.1->e=f
 |[],_,e,f,h,_,_=>by simp at h
 |x::es,nd,e,f,he,hf,h=>by
  obtain ⟨n1,n2⟩:=eg7.mp nd
  rcases ec8.mp he with z|z
  · rcases ec8.mp hf with y|y
    · rw[z,y]
    · exact absurd (ee3.mpr ⟨f,y,by rw[<-h,z]⟩) n1
  · rcases ec8.mp hf with y|y
    · exact absurd (ee3.mpr ⟨e,z,by rw[h,y]⟩) n1
    · exact bh5 n2 z y h
theorem cg3 {α β:Type}:∀{es:List (α×β)},(es.map (·.2)).Nodup->∀{e f:α×β},e∈es->f∈es->e.2=f.2->e=f
 |[],_,e,f,h,_,_=>by simp at h
 |x::es,nd,e,f,he,hf,h=>by
  obtain ⟨n1,n2⟩:=eg7.mp nd
  rcases ec8.mp he with z|z
  · rcases ec8.mp hf with y|y
    · rw[z,y]
    · exact absurd (ee3.mpr ⟨f,y,by rw[<-h,z]⟩) n1
  · rcases ec8.mp hf with y|y
    · exact absurd (ee3.mpr ⟨e,z,by rw[h,y]⟩) n1
    · exact cg3 n2 z y h
theorem bw1 {es:List (Nat×Addr)}(nd:(es.map (·.1)).Nodup){e:Nat×Addr}(he:e∈es):B8 (B5 es) (Sum.inl (e.1:Int))=some (.ref e.2):=by
 cases h:B8 (B5 es) (Sum.inl (e.1:Int)) with
 |none=>exact absurd (ee3.mpr ⟨e,he,rfl⟩) (bw0 h)
 |some v=>
  obtain ⟨f,hf,h1,rfl⟩:=bv9 h;rw[bh5 nd hf he h1]
theorem cg4 {rs:List (List Int)}{r:List Int}{l:Nat}(h:r.length=l):B2 (rs++[r]) l=B2 rs l++[r]:=by
 unfold B2;rw[em1,ep3 (by simpa using h),List.filter_nil]
theorem cg5 {rs:List (List Int)}{r:List Int}{l:Nat}(h:r.length≠l):B2 (rs++[r]) l=B2 rs l:=by
 unfold B2;rw[em1,et7 (by simpa using h),List.filter_nil,ef4]
theorem dc5 {rs:List (List Int)}{l:Nat}(h:∀r∈rs,r.length≠l):B2 rs l=[]:=by
 unfold B2
 exact List.filter_eq_nil_iff.mpr fun r hr=>by simpa using h r hr
structure cv2 (H0 H:Hp)(d:Addr)(es:List (Nat×Addr))(rs:List (List Int)):Prop where
 nk:(es.map (·.1)).Nodup
 na:(es.map (·.2)).Nodup
 row:∀e∈es,∃cs:List Addr,H e.2=some (.lst (cs.map V.ref))/\C8 H0 cs (B2 rs e.1)
 key:∀k∈es.map (·.1),∃r∈rs,r.length=k
 all:∀r∈rs,r.length∈es.map (·.1)
 nd:∀e∈es,e.2≠d
def av5:Sp:=fun vs H Q _=>∃(a:Addr) (as:List Addr) (rs:List (List Int)),vs=[.ref a]/\H a=some (.lst (as.map V.ref))/\C8 H as rs/\rs.length<=40/\
 ∀(d:Addr) (es:List (Nat×Addr)) (H':Hp),H d=none->e8 H H'->H' d=some (.dK (B5 es))->cv2 H H' d es rs->es.length<=40->(∀e∈es,H e.2=none)->Q (.ref d) H'
theorem bw2:m9 ["rings","by_length","ring"] ["rings"] (j6 V6):=by rfl'
theorem dc6 {f:Addr}{fd:FuncData}(F:x6 K "sort_by_length" "sort_by_length" V6 f fd)(B:Bl mg):n5 P w K mg base y7 1 f fd ["rings"] av5:=by
 refine F.ok bw2 (fun vs H Q E h=> ?_) (fun cdv A outer s H vs Q E hr h=> ?_)
 · obtain ⟨a,as,rs,rfl,_⟩:=h;rfl
 · obtain ⟨a,as,rs,rfl,ha,rows,lrs,q⟩:=h
   refine ⟨_,c7 (m6 (i:=1) bw2.nd rfl (Or.inl rfl) al9)
     (c7 (A7 PassesOwn.never rfl (A0 (pv 0)) (o7 (i:=2) bw2.nd rfl (Or.inl rfl))
       (c8 (x8 (C6 (ct1 (pv 1) (c5 (x9 B.len (c5 (pv 2) c6)) (c5 (A6 c6) c6))) (c5 (pv 2) c6)))))
     (c8 (j5 (pv 1)))),?_⟩
   refine fun d hd=> ?_
   have s1:e8 H (i8 H d (.dK [])):=e8.upd_new hd;have h1d:(i8 H d (.dK [])) d=some (.dK (B5 [])):=c9;generalize (i8 H d (.dK []))=H1 at s1 h1d ⊢
   refine ⟨_,rfl,a,rfl,⟨_,i5.of (s1 a _ ha)⟩,E7 (K:=K) (a:=a) (xs:=as.map V.ref) (fun i σ H2=>∃(es:List (Nat×Addr)) (v2:Option V),σ=[some (.ref a),some (.ref d),v2]/\H2 d=some (.dK (B5 es))/\cv2 H H2 d es (rs.take i)/\es.length<=i/\(∀e∈es,H e.2=none)/\e8 H H2)
     ⟨[],none,rfl,h1d,⟨ek7,ek7,fun e h=>by simp at h,fun k h=>by simp at h,fun r h=>by simp at h,fun e h=>by simp at h⟩,ec6 _,fun e h=>by simp at h,s1⟩ (fun i σ H2 _ zz=>by obtain ⟨_,_,_,_,_,_,_,s⟩:=zz;exact i5.of (s a _ ha)) ?_ ?_⟩
   · rintro i y σ H2 hi ⟨es,v2,rfl,h2d,bl,les,fr,s2⟩;rw[ec1] at hi
     cases hA:as[i]? with
     |none=>rw[hA] at hi;cases hi
     |some b=>
      rw[hA] at hi;cases hi;have hil:i < as.length:=(ec0.mp hA).1;have hri:rs[i]? =some (rs[i]'(by rw[<-rows.1];exact hil)):=eb9 _;generalize (rs[i]'(by rw[<-rows.1];exact hil))=r at hri;have hb0:=rows.2 i b r hA hri;have hb:=s2 b _ hb0
      have hi40:i < 40:=by have:=rows.1;omega
      have et:rs.take (i+1)=rs.take i++[r]:=n6 hri;refine ⟨_,rfl,.inr (.inr (.inl ⟨rfl,.inl ⟨_,h2d⟩⟩)),_,rfl,b,_,rfl,.inl (i5.of hb),ee2 _,fun e he=> ?_⟩;rw[eb8];have nde:d≠e:=i4 h2d he;have s23:e8 H2 (i8 H2 e (.lst [])):=e8.upd_new he;have h3e:(i8 H2 e (.lst [])) e=some (.lst []):=c9
      have kp:∀c,c≠e->(i8 H2 e (.lst [])) c=H2 c:=fun c hc=>i6 hc
      generalize (i8 H2 e (.lst []))=H3 at s23 h3e kp ⊢;refine ⟨d,B5 es,Sum.inl (r.length:Int),.ref e,rfl,rfl,s23 d _ h2d,?_,fun v hv=> ?_,fun hn=> ?_⟩
      · unfold B5;rw[eb8,sizeLine_eq];omega
      · obtain ⟨e0,he0,hl0,rfl⟩:=bv9 hv;obtain ⟨cs,hcs,rcs⟩:=bl.row e0 he0;have h3x:=s23 e0.2 _ hcs
        have lx:(cs.map V.ref).length<=1000:=by
          rw[eb8,rcs.1];have:=List.length_filter_le (fun r=>decide (r.length=e0.1)) (rs.take i);rw[ed3] at this;unfold B2;omega
        refine ⟨.inl ⟨rfl,_,i5.of h3x⟩,_,rfl,e0.2,_,_,rfl,rfl,h3x,p9 lx,?_⟩;refine ⟨es,_,rfl,by rw[i6 (bl.nd e0 he0).symm];exact s23 d _ h2d,⟨bl.nk,bl.na,fun e1 he1=> ?_,fun k hk=> ?_,fun r' hr'=> ?_,bl.nd⟩,by omega,fr,fun c o hc=>by rw[i6 (i4 hc (fr e0 he0))];exact s23 c o (s2 c o hc)⟩
        · by_cases h12:e1.2=e0.2
          · have:e1=e0:=cg3 bl.na he1 he0 h12;subst this;refine ⟨cs++[b],by rw[c9,ec3];rfl,?_⟩;rw[et,cg4 hl0.symm];exact W4 rcs hb0
          · obtain ⟨ys,hys,rys⟩:=bl.row e1 he1;refine ⟨ys,by rw[i6 h12];exact s23 _ _ hys,?_⟩;rw[et,cg5 (fun z=>h12 (by rw[bh5 bl.nk he1 he0 (by omega)]))];exact rys
        · obtain ⟨r',hr',e⟩:=bl.key k hk;exact ⟨r',by rw[et];exact eg0 _ hr',e⟩
        · rw[et] at hr'
          rcases ed8.mp hr' with z|z
          · exact bl.all r' z
          · have:r'=r:=by simpa using z
            rw[this];exact ee3.mpr ⟨e0,he0,hl0⟩
      · have hnk:=bw0 hn
        have ekv:B5 es++[(Sum.inl (r.length:Int),V.ref e)]=B5 (es++[(r.length,e)]):=by unfold B5;rw[ec3];rfl
        rw[ekv]
        have h4e:(i8 H3 d (.dK (B5 (es++[(r.length,e)])))) e=some (.lst []):=by rw[i6 nde.symm];exact h3e
        refine ⟨.inl ⟨rfl,_,i5.of h4e⟩,_,rfl,e,_,_,rfl,rfl,h4e,p9 (ee2 _),?_⟩
        have hne:∀e1∈es,e1.2≠e:=fun e1 he1 z=>by
          obtain ⟨ys,hys,_⟩:=bl.row e1 he1;rw[z,he] at hys;cases hys
        refine ⟨es++[(r.length,e)],_,rfl,by rw[i6 nde,c9],⟨?_,?_,fun e1 he1=> ?_,fun k hk=> ?_,fun r' hr'=> ?_,fun e1 he1=> ?_⟩,by rw[ec2];show es.length+1<=i+1;omega,fun e1 he1=> ?_,fun c o hc=> ?_⟩
        · rw[ec3,eg5];refine ⟨bl.nk,by simp,fun x hx y hy=> ?_⟩
          have:y=r.length:=by simpa using hy
          rw[this]
          exact fun z=>hnk (by rw[<-z];exact hx)
        · rw[ec3,eg5];refine ⟨bl.na,by simp,fun x hx y hy=> ?_⟩
          have:y=e:=by simpa using hy
          rw[this];obtain ⟨e1,he1,rfl⟩:=ee3.mp hx;exact hne e1 he1
        · rcases ed8.mp he1 with z|z
          · obtain ⟨ys,hys,rys⟩:=bl.row e1 z;refine ⟨ys,by rw[i6 (hne e1 z),i6 (bl.nd e1 z),kp _ (hne e1 z)];exact hys,?_⟩;rw[et,cg5 (fun y=>hnk (by rw[y];exact ee3.mpr ⟨e1,z,rfl⟩))];exact rys
          · have:e1=(r.length,e):=by simpa using z
            subst this;refine ⟨[b],c9,?_⟩;show C8 H [b] (B2 (rs.take (i+1)) r.length);rw[et,cg4 rfl,dc5 (fun r' hr' y=>hnk (by rw[<-y];exact bl.all r' hr'))];exact W4 (as:=[]) (rs:=[]) ⟨rfl,fun j a r h=>by simp at h⟩ hb0
        · rw[ec3] at hk
          rcases ed8.mp hk with z|z
          · obtain ⟨r',hr',e⟩:=bl.key k z;exact ⟨r',by rw[et];exact eg0 _ hr',e⟩
          · have:k=r.length:=by simpa using z
            exact ⟨r,by rw[et];exact ed4 _ (by simp),this.symm⟩
        · rw[et] at hr';rw[ec3]
          rcases ed8.mp hr' with z|z
          · exact eg0 _ (bl.all r' z)
          · have:r'=r:=by simpa using z
            rw[this];exact ed4 _ (by simp)
        · rcases ed8.mp he1 with z|z
          · exact bl.nd e1 z
          · have:e1=(r.length,e):=by simpa using z
            subst this;exact nde.symm
        · rcases ed8.mp he1 with z|z
          · exact fr e1 z
          · have:e1=(r.length,e):=by simpa using z
            subst this;exact s2.free he
        · have h2c:=s2 c o hc;rw[i6 (i4 h2c he),i6 (i4 hc hd),kp _ (i4 h2c he)];exact h2c
   · rintro σ H2 ⟨es,v2,rfl,h2d,bl,les,fr,s2⟩;rw[eb8,rows.1,ee1] at bl;rw[eb8,rows.1] at les;exact ⟨_,rfl,q d es H2 hd s2 h2d bl (by omega) fr⟩
end
end My
namespace My
open PySem L2 Mth
section
variable {P:Program} {w:World} {K:PySem.W.Frag} {mg:Str->Option Value} {base:Heap}
def JL (m:Nat)(rs:List (List Int)):List (List Int)->List (List (List Int))->Prop
 |[],[]=>True
 |J::qs,Rs::Rss=>JO m rs J Rs/\JL m rs qs Rss
 |_,_=>False
theorem cg6 {m:Nat}{rs:List (List Int)}:∀{qs:List (List Int)} {Rss:List (List (List Int))} {J:List Int} {Rs:List (List Int)},JL m rs qs Rss->JO m rs J Rs->JL m rs (qs++[J]) (Rss++[Rs])
 |[],[],_,_,_,h=>⟨h,trivial⟩
 |[],_::_,_,_,h,_=>h.elim
 |_::_,[],_,_,h,_=>h.elim
 |_::_,_::_,_,_,⟨a,b⟩,h=>⟨a,cg6 b h⟩
theorem cg7 {m:Nat}{rs:List (List Int)}:∀{qs:List (List Int)} {Rss:List (List (List Int))},JL m rs qs Rss->qs.flatten.Perm Rss.flatten.flatten
 |[],[],_=>List.Perm.refl _
 |[],_::_,h=>h.elim
 |_::_,[],h=>h.elim
 |J::qs,Rs::Rss,⟨⟨l,k,l0,_,c,_,_,hj,_⟩,b⟩=>by
  rw[ee8,ee8,eg3];exact List.Perm.append (hj.perm l0 c) (cg7 b)
theorem cl2 {m:Nat}{rs:List (List Int)}:∀{qs:List (List Int)} {Rss:List (List (List Int))},JL m rs qs Rss->∀{Rs:List (List Int)},Rs∈Rss->∃J∈qs,JO m rs J Rs
 |[],[],_,_,h=>by simp at h
 |[],_::_,h,_,_=>h.elim
 |_::_,[],h,_,_=>h.elim
 |J::qs,Rs::Rss,⟨a,b⟩,R,h=>by
  rcases ec8.mp h with e|e
  · rw[e];exact ⟨J,ec5,a⟩
  · obtain ⟨J',h1,h2⟩:=cl2 b e;exact ⟨J',ec9 _ h1,h2⟩
theorem bh6 {m:Nat}{rs:List (List Int)}:∀{qs:List (List Int)} {Rss:List (List (List Int))},JL m rs qs Rss->∀{J:List Int},J∈qs->∃Rs∈Rss,JO m rs J Rs
 |[],[],_,_,h=>by simp at h
 |[],_::_,h,_,_=>h.elim
 |_::_,[],h,_,_=>h.elim
 |J::qs,Rs::Rss,⟨a,b⟩,R,h=>by
  rcases ec8.mp h with e|e
  · rw[e];exact ⟨Rs,ec5,a⟩
  · obtain ⟨J',h1,h2⟩:=bh6 b e;exact ⟨J',ec9 _ h1,h2⟩
theorem dg3 {m:Nat}{rs Rs:List (List Int)}{J:List Int}(h:JO m rs J Rs):J≠[]:=by
 obtain ⟨l,k,l0,_,_,_,d1,hj,_⟩:=h;intro e;have:=hj.len;rw[e] at this;have:0 < Rs.length*l:=er8 (by omega) l0;simp only[eu0] at*;omega
theorem bm8:∀{ks:List Nat} {rs:List (List Int)},ks.Nodup->(∀r∈rs,r.length∈ks)->((ks.map (B2 rs)).flatten).Perm rs
 |[],rs,_,h=>by
  cases rs with
  |nil=>exact List.Perm.refl _
  |cons r rs=>exact absurd (h r ec5) (by simp)
 |k::ks,rs,nd,h=>by
  obtain ⟨n1,n2⟩:=eg7.mp nd
  have e:ks.map (B2 rs)=ks.map (B2 (rs.filter fun r=> !decide (r.length=k))):=ej3 fun l hl=>by
    unfold B2;rw[List.filter_filter]
    refine List.filter_congr fun r hr=> ?_
    by_cases z:r.length=l
    · have:r.length≠k:=fun y=>n1 (by rw[<-y,z];exact hl)
      simp [z,this] at*
      exact fun y=>this (by rw[<-y])
    · simp [z]
  rw[eg2,ee8,e]
  have ih:=bm8 (ks:=ks) (rs:=rs.filter fun r=> !decide (r.length=k)) n2 fun r hr=>by
    obtain ⟨h1,h2⟩:=ej9.mp hr;have:=h r h1
    rcases ec8.mp this with y|y
    · simp [y] at h2
    · exact y
  exact (List.Perm.append_left _ ih).trans (List.filter_append_perm (fun r:List Int=>decide (r.length=k)) rs)
theorem cl3 {H:Hp}{as:List Addr}{rs:List (List Int)}(h:C8 H as rs)(b n:Nat):C8 H ((as.drop b).take n) ((rs.drop b).take n):=by
 refine ⟨by rw[ed3,ed3,ei0,ei0,h.1],fun j a r h1 h2=> ?_⟩
 by_cases hj:j < n
 · rw[eg1 hj,ek8] at h1 h2;exact h.2 _ a r h1 h2
 · have:=(ec0.mp h1).1;rw[ed3] at this;omega
theorem ak3 (g:List Int->Bool):∀rs:List (List Int),(rs.filter g).flatten.length<=rs.flatten.length
 |[]=>ec6 _
 |r::rs=>by
  have ih:=ak3 g rs;rw[List.filter_cons]
  split
  · rw[ee8,ee8,ec2,ec2];omega
  · rw[ee8,ec2];omega
theorem bm9:∀{qs:List (List Int)} {J:List Int},qs.flatten.Nodup->J∈qs->J.Nodup
 |[],_,_,h=>by simp at h
 |q::qs,J,nd,h=>by
  rw[ee8,eg5] at nd
  rcases ec8.mp h with e|e
  · rw[e];exact nd.1
  · exact bm9 nd.2.1 e
def be1:Sp:=fun vs H Q _=>∃(a:Addr) (p:List Int) (m:Nat),vs=[.ref a,.int (m:Int)]/\r9 H a p/\1<=m/\m<=1000000000000000000000000000000/\
 (∀(t o:Addr) (r:List Int) (H':Hp),e8 H H'->H' t=some (.tup [.str "root",.ref o])->H o=none->H' o=some (.lst (r.map V.int))->A1 r->r.length=p.length->N6 r (m:Int) p->ae2 p m r->Q (.ref t) H')/\
 (∀(t:Addr) (l c d:Nat) (H':Hp),e8 H H'->H' t=some (.tup [.str "bars",.int (l:Int),.int (c:Int),.int (d:Int)])->c=L8 (w5 p p.length) l->1<=c->P1 l m d->¬d∣c->(∀r∈w5 p p.length,r.length < l->∀e,P1 r.length m e->e∣L8 (w5 p p.length) r.length)->Q (.ref t) H')
theorem aa9:m9 ["p","m","by_length","joined","length","rings","many","least","begin"] ["p","m"] (j6 ai5):=by rfl'
theorem dl0 {f:Addr}{fd:FuncData}(F:x6 K "root_told" "root_told" ai5 f fd)(B:Bl mg)(cR:m8 P w K mg base "rounds_of" 4 ["p"] J0)(cS:m8 P w K mg base "sort_by_length" 1 ["rings"] av5)(c1:m8 P w K mg base "must_be_from_one" 2 ["number"] bq3)
   (cLR:m8 P w K mg base "least_right" 3 ["l","m"] dc3) (cJ:m8 P w K mg base "join_rings" 1 ["rings","m"] bv8) (cF:m8 P w K mg base "from_rounds" 3 ["rounds"] be0):n5 P w K mg base y7 5 f fd ["p","m"] be1:=by
 refine F.ok aa9 (fun vs H Q E h=> ?_) (fun cdv A outer s H vs Q E hr h=> ?_)
 · obtain ⟨a,p,m,rfl,_⟩:=h;rfl
 · obtain ⟨a,p,m,rfl,⟨ha,tp,lp⟩,m1,m2,q1,q2⟩:=h;have hr1:m7 1 _:=hr.mono (by decide);have hr2:m7 2 _:=hr.mono (by decide);have hr3:m7 3 _:=hr.mono (by decide);have hu:=O1 hr
   refine ⟨_,c7 (m6 (i:=2) aa9.nd rfl (Or.inl rfl) (i7 cS hr1 (c5 (i7 cR hr (c5 (pv 0) c6)) c6)))
     (c7 (x8 (i7 c1 hr2 (c5 (pv 1) c6)))
     (c7 (m6 (i:=3) aa9.nd rfl (Or.inl rfl) (A6 c6))
     (c7 (A7 PassesOwn.never rfl (A0 (ck6 rfl B.sorted (c5 (pv 2) c6))) (o7 (i:=4) aa9.nd rfl (Or.inl rfl))
       (c7 (m6 (i:=5) aa9.nd rfl (Or.inl rfl) (au6 hu (pv 2) (pv 4) (fun _ _=>rfl)))
       (c7 (m6 (i:=6) aa9.nd rfl (Or.inl rfl) (x9 B.len (c5 (pv 5) c6)))
       (c7 (m6 (i:=7) aa9.nd rfl (Or.inl rfl) (i7 cLR hr3 (c5 (pv 4) (c5 (pv 1) c6))))
       (c7 (o6 (j9 J3 (q0 K6 (pv 6) (pv 7)) j4 (j8 _)) (c8 (j5 (bb6 (c5 j7 (c5 (pv 4) (c5 (pv 6) (c5 (pv 7) c6))))))) k7)
       (c8 (A7 PassesOwn.never rfl (ct5 (by rfl) B.range (c5 j4 (c5 (pv 6) (c5 (pv 7) c6)))) (o7 (i:=8) aa9.nd rfl (Or.inl rfl))
         (c8 (x8 (C6 (pv 3) (c5 (i7 cJ hr1 (c5 (al6 bg3 (pv 5) (W1 (pv 8)) (W1 (q0 Q4 (pv 8) (pv 7)))) (c5 (pv 1) c6))) c6)))))))))))
     (c8 (j5 (bb6 (c5 j7 (c5 (i7 cF hr3 (c5 (pv 3) c6)) c6)))))))),?_⟩
   refine ⟨_,rfl,a,p,rfl,⟨ha,tp,lp⟩,fun ro as rs H1 hro s1 h1ro rows up fa nda nra=> ?_⟩;have cl:=V8 up;have fl:=ak2 tp up;have ers:rs=w5 p p.length:=up.eq;refine ⟨ro,as,rs,rfl,h1ro,rows,by omega,fun d es H2 hd s12 h2d bl les fre=> ?_⟩;have s02:=s1.trans s12;refine ⟨_,rfl,(m:Int),rfl,by omega,?_⟩;refine ⟨ee2 _,fun jo hjo=> ?_⟩;have ndj:d≠jo:=i4 h2d hjo;have s23:e8 H2 (i8 H2 jo (.lst [])):=e8.upd_new hjo;have h3j:(i8 H2 jo (.lst [])) jo=some (.lst []):=c9;generalize (i8 H2 jo (.lst []))=H3 at s23 h3j ⊢;have h3d:=s23 d _ h2d
   have hkeys:(B5 es).map (·.1)=(es.map fun e=>(e.1:Int)).map Sum.inl:=by unfold B5;rw[eh6,eh6];rfl
   refine ⟨_,rfl,d,B5 es,es.map fun e=>(e.1:Int),rfl,h3d,hkeys,by rw[eb8];omega,fun ms so pm srt hso=> ?_⟩;have s34:e8 H3 (i8 H3 so (.lst (ms.map V.int))):=e8.upd_new hso;have h4s:(i8 H3 so (.lst (ms.map V.int))) so=some (.lst (ms.map V.int)):=c9;generalize (i8 H3 so (.lst (ms.map V.int)))=H4 at s34 h4s ⊢;have h4j:=s34 jo _ h3j;have s24:=s23.trans s34;have s04:=s02.trans s24;have hjo0:H jo=none:=s02.free hjo
   have mem_ms:∀z∈ms,∃e∈es,z=(e.1:Int):=fun z hz=>by
     obtain ⟨e,he,rfl⟩:=ee3.mp (pm.mem_iff.mp hz);exact ⟨e,he,rfl⟩
   have in_ms:∀r∈rs,((r.length:Nat):Int)∈ms:=fun r hr'=>by
     obtain ⟨e,he,hl⟩:=ee3.mp (bl.all r hr');exact pm.mem_iff.mpr (ee3.mpr ⟨e,he,by rw[hl]⟩)
   have nso:so≠jo:=fun z=>by rw[z,h3j] at hso;cases hso
   refine ⟨so,rfl,⟨_,i5.of h4s⟩,E7 (K:=K) (a:=so) (xs:=ms.map V.int) (fun i σ H5=>∃(js:List Addr) (qs:List (List Int)) (Rss:List (List (List Int))) (v4 v5 v6 v7 v8:Option V),σ=[some (.ref a),some (.int (m:Int)),some (.ref d),some (.ref jo),v4,v5,v6,v7,v8]/\H5 jo=some (.lst (js.map V.ref))/\C8 H5 js qs/\jo∉js/\js.length<=40*i/\JL m rs qs Rss/\Rss.flatten=((ms.take i).map fun z=>B2 rs z.toNat).flatten/\(∀z∈ms.take i,∀e,P1 z.toNat m e->e∣L8 rs z.toNat)/\(∀c o,H4 c=some o->c≠jo->H5 c=some o))
     ⟨[],[],[],none,none,none,none,none,rfl,h4j,⟨rfl,fun j a r h=>by simp at h⟩,by simp,ee2 _,trivial,rfl,fun z hz=>by simp at hz,fun c o h _=>h⟩ (fun i σ H5 _ zz=>by obtain ⟨_,_,_,_,_,_,_,_,_,_,_,_,_,_,_,_,k⟩:=zz;exact i5.of (k so _ h4s nso)) ?_ ?_⟩
   · rintro i y σ H5 hi ⟨js,qs,Rss,v4,v5,v6,v7,v8,rfl,h5j,rowsJ,njj,ljs,jl,hfl,hdv,k5⟩;obtain ⟨z,hz,rfl⟩:=y9 hi;obtain ⟨e,he,rfl⟩:=mem_ms z (ec4 hz);have hil:i < ms.length:=(ec0.mp hz).1
     have lms:ms.length=es.length:=by rw[pm.length_eq,eb8]
     obtain ⟨cs,hcs,rcs⟩:=bl.row e he;have h5d:=k5 d _ (s34 d _ h3d) ndj;have nej:e.2≠jo:=i4 hcs hjo;have h5c:=k5 e.2 _ (s24 e.2 _ hcs) nej;obtain ⟨r0,hr0,lr0⟩:=bl.key e.1 (ee3.mpr ⟨e,he,rfl⟩)
     have le:1<=e.1/\e.1<=40:=by
       obtain ⟨y,L,hy,pr,er,_⟩:=up.ring r0 hr0
       have b:=O2 tp hy (m:=L) fun i i0 i1=>pr.least i i0 i1
       have:=pr.pos;rw[er,A2] at lr0;omega
     have lcs:cs.length=L8 rs e.1:=by rw[rcs.1,ak0]
     have hfil:∀r∈B2 rs e.1,r.length=e.1/\r∈rs:=fun r hr'=>by
       obtain ⟨h1,h2⟩:=ej9.mp hr';exact ⟨of_decide_eq_true h2,h1⟩
     have c1':1<=L8 rs e.1:=by
       rw[<-ak0];exact List.length_pos_of_mem (ej9.mpr ⟨hr0,decide_eq_true lr0⟩)
     have ccl:L8 rs e.1*e.1<=40:=by
       have h1:=(am9 (l:=e.1) (by omega) (Rs:=B2 rs e.1) fun r hr'=>(hfil r hr').1).1;rw[ak0] at h1;have h2:(B2 rs e.1).flatten.length<=rs.flatten.length:=ak3 _ rs;omega
     have c40:L8 rs e.1<=40:=ee0 (Nat.le_mul_of_pos_right _ (by omega)) ccl;refine ⟨_,rfl,_,rfl,d,.ref e.2,rfl,.inl ⟨B5 es,Sum.inl (e.1:Int),.inl h5d,rfl,(bw1 bl.nk he).symm⟩,?_⟩;refine ⟨_,rfl,e.2,_,rfl,.inl (i5.of h5c),?_⟩;rw[eb8,lcs];obtain ⟨c,hc⟩:∃c,c=L8 rs e.1:=⟨_,rfl⟩;rw[<-hc] at c1' ccl c40 lcs ⊢;refine ⟨_,rfl,_,rfl,e.1,m,rfl,by omega,by omega,by omega,m2,fun dd hlr=> ?_⟩;have ddp:0 < dd:=hlr.pos (by omega);refine ⟨_,rfl,_,rfl,_,_,rfl,rfl,(by show (0:Int) < (dd:Int);omega),rfl,_,rfl,?_⟩
     by_cases hdvd:dd∣c
     · have e0:((c:Int)%(dd:Int))=0:=by
         rw[<-ei1,Nat.mod_eq_zero_of_dvd hdvd];rfl
       refine R8 (congrArg V.int e0) ?_;obtain ⟨u,hu'⟩:=hdvd
       have u1:1<=u:=by
         rcases ej8 u with y|y
         · rw[y,et4] at hu';omega
         · exact y
       have ddc:dd<=c:=ej1 (by omega) ⟨u,hu'⟩;have uc:u<=c:=ej1 (by omega) ⟨dd,by rw[hu',ej0]⟩
       have en:(c - 1)/dd+1=u:=by
         have:c - 1=(u - 1)*dd+(dd - 1):=by
           have:u*dd=(u - 1)*dd+dd:=by rw[<-ej7];congr 1;omega
           rw[hu',ej0];omega
         rw[this,ej0,eu2 ddp,et1 (by omega)];omega
       obtain ⟨k,hk⟩:=hlr.parts
       have cop:ee4 e.1 k=1:=by
         have:=hlr.rest;rw[hk,ek4 k ddp] at this;exact this
       refine ⟨_,rfl,_,rfl,c,dd,rfl,by omega,by omega,by omega,by omega,?_⟩;rw[en]
       refine ck7 (lo:=0) (st:=(dd:Int)) (n:=u) (fun j σ H6=>∃(js':List Addr) (qs':List (List Int)) (Rss':List (List (List Int))) (v8:Option V),σ=[some (.ref a),some (.int (m:Int)),some (.ref d),some (.ref jo),some (.int (e.1:Int)),some (.ref e.2),some (.int (c:Int)),some (.int (dd:Int)),v8]/\H6 jo=some (.lst (js'.map V.ref))/\C8 H6 js' qs'/\jo∉js'/\js'.length=js.length+j/\JL m rs qs' Rss'/\Rss'.flatten=Rss.flatten++(B2 rs e.1).take (j*dd)/\(∀c o,H4 c=some o->c≠jo->H6 c=some o))
         ⟨js,qs,Rss,v8,rfl,h5j,rowsJ,njj,rfl,jl,by rw[et6,en4,ef4],k5⟩ ?_ ?_
       · rintro j σ H6 hj ⟨js',qs',Rss',v8,rfl,h6j,rowsJ',njj',ljs',jl',hfl',k6⟩;have h6c:=k6 e.2 _ (s24 e.2 _ hcs) nej
         have jle:j*dd+dd<=c:=by
           calc j*dd+dd=(j+1)*dd:=by rw[ej7]
             _<=u*dd:=en7 dd hj
             _=c:=by rw[hu',ej0]
         refine ⟨_,rfl,.inl ⟨rfl,_,i5.of h6j⟩,_,rfl,_,rfl,_,rfl,_,rfl,_,rfl,_,_,rfl,rfl,_,rfl,e.2,_,rfl,i5.of h6c,fun sl hsl=> ?_⟩
         have ecut:ad7 (cs.map V.ref) (some ((0:Int)+(j:Int)*(dd:Int))) (some ((0:Int)+(j:Int)*(dd:Int)+(dd:Int)))=((cs.drop (j*dd)).take dd).map V.ref:=by
           have a1:(0:Int)+(j:Int)*(dd:Int)=((j*dd:Nat):Int):=by rw[Int.zero_add,el2]
           have a2:((j*dd:Nat):Int)+(dd:Int)=((j*dd+dd:Nat):Int):=by omega
           rw[a1,a2,di9 _ _ _ (by rw[eb8,lcs];omega),eb8,lcs,List.map_take,List.map_drop]
           congr 1
           omega
         dsimp only
         rw[ecut];have s67:e8 H6 (i8 H6 sl (.lst (((cs.drop (j*dd)).take dd).map V.ref))):=e8.upd_new hsl;have h7s:(i8 H6 sl (.lst (((cs.drop (j*dd)).take dd).map V.ref))) sl=some (.lst (((cs.drop (j*dd)).take dd).map V.ref)):=c9;generalize (i8 H6 sl (.lst (((cs.drop (j*dd)).take dd).map V.ref)))=H7 at s67 h7s ⊢
         have s17:∀c o,H1 c=some o->H7 c=some o:=fun c o h1=>s67 c o (k6 c o (s24 c o (s12 c o h1)) (i4 (s12 c o h1) hjo))
         have rB:C8 H7 ((cs.drop (j*dd)).take dd) (((B2 rs e.1).drop (j*dd)).take dd):=cl3 (O0 rcs fun c _ o ho=>s17 c o ho) _ _
         have lB:(((B2 rs e.1).drop (j*dd)).take dd).length=dd:=by
           rw[ed3,ei0,ak0,<-hc];omega
         have mB:∀r∈((B2 rs e.1).drop (j*dd)).take dd,r∈B2 rs e.1:=fun r hr'=>List.mem_of_mem_drop (el5 hr')
         obtain ⟨Bk,hBk⟩:∃Bk,Bk=((B2 rs e.1).drop (j*dd)).take dd:=⟨_,rfl⟩;rw[<-hBk] at rB lB mB;refine ⟨_,rfl,sl,_,Bk,e.1,k,by rw[lB,<-hk];rfl,h7s,rB,by omega,fun r hr'=>(hfil r (mB r hr')).1,by omega,?_,cop,fun o J H8 ho s78 h8o hji=> ?_⟩
         · rw[lB];exact ee0 (en7 _ ddc) ccl
         have h8j:=s78 jo _ (s67 jo _ h6j)
         have noj:o≠jo:=fun z=>by rw[z,s67 jo _ h6j] at ho;cases ho
         refine ⟨jo,_,_,rfl,rfl,h8j,(by rw[eb8,sizeLine_eq];omega),?_⟩;have hJO:JO m rs J Bk:=⟨e.1,k,by omega,by rw[lB,<-hk],cop,fun r hr'=>(hfil r (mB r hr')).1,by omega,hji,fun r hr'=>(hfil r (mB r hr')).2,by rw[lB];exact hlr,j,by rw[lB];exact hBk⟩;refine ⟨js'++[o],qs'++[J],Rss'++[Bk],_,rfl,by rw[c9,ec3];rfl,?_,?_,by rw[ec2,ljs'];rfl,cg6 jl' hJO,?_,fun c o' hco hcj=> ?_⟩
         · refine W4 (O0 rowsJ' fun c hcm o' hco=> ?_) ?_
           · have:c≠jo:=fun z=>njj' (by rw[<-z];exact hcm)
             rw[i6 this];exact s78 c o' (s67 c o' hco)
           · rw[i6 noj];exact h8o
         · intro hm'
           rcases ed8.mp hm' with y|y
           · exact njj' y
           · have:jo=o:=by simpa using y
             exact noj this.symm
         · rw[eg3,ee8,List.flatten_nil,ef4,hfl',hBk,ee7,ej7,eu9]
         · rw[i6 hcj];exact s78 c o' (s67 c o' (k6 c o' hco hcj))
       · rintro σ H6 ⟨js',qs',Rss',v8,rfl,h6j,rowsJ',njj',ljs',jl',hfl',k6⟩;refine ⟨js',qs',Rss',_,_,_,_,_,rfl,h6j,rowsJ',njj',?_,jl',?_,fun z hz' e' he'=> ?_,k6⟩
         · rw[ljs',er7];omega
         · have efil:(B2 rs e.1).take (u*dd)=B2 rs e.1:=eh3 (by rw[ak0,<-hc,hu',ej0];exact ec6 _);rw[hfl',hfl,n6 hz,ec3,eg3,efil];show _=_++([B2 rs ((e.1:Int)).toNat]).flatten;rw[ed7,ee8,List.flatten_nil,ef4]
         · rw[n6 hz] at hz'
           rcases ed8.mp hz' with y|y
           · exact hdv z y e' he'
           · have:z=(e.1:Int):=by simpa using y
             subst this;rw[ed7] at he' ⊢;rw[he'.uniq hlr,<-hc];exact ⟨u,hu'⟩
     · have e0:¬V.int ((c:Int)%(dd:Int))=V.int 0:=fun z=>hdvd (em6 (by have:=V.int.inj z;rw[<-ei1] at this;omega))
       rw[decide_eq_false e0];refine A8 ?_;refine ⟨_,rfl,_,rfl,_,rfl,(by show 4<=sizeLine;decide),fun t ht=> ?_⟩
       refine q2 t e.1 c dd _ (fun b o hb=> ?_) c9 (by rw[hc,ers]) c1' hlr hdvd fun r hr' hlt e' he'=> ?_
       · have:=k5 b o (s04 b o hb) (i4 hb hjo0);rw[i6 (i4 this ht)];exact this
       · rw[<-ers] at hr' ⊢;have hin:=in_ms r hr';obtain ⟨jj,hjj⟩:=eh1.mp hin;have hjl:=(ec0.mp hjj).1
         have:jj < i:=by
           rcases ep2 jj i with y|y
           · exact y
           · exfalso;have e1:=(ec0.mp hjj).2;have e2:=(ec0.mp hz).2
             rcases ep2 i jj with w|w
             · have:=ef8.mp srt i jj hil hjl w;rw[e1,e2] at this;omega
             · have:jj=i:=by omega
               subst this;rw[e1] at e2;omega
         have hm':((r.length:Nat):Int)∈ms.take i:=ec4 (i:=jj) (by rw[eg1 this];exact hjj);have:=hdv _ hm' e' (by rw[ed7];exact he');rw[ed7] at this;exact this
   · rintro σ H5 ⟨js,qs,Rss,v4,v5,v6,v7,v8,rfl,h5j,rowsJ,njj,ljs,jl,hfl,hdv,k5⟩;rw[eb8,ee1] at hfl
     have hfl2:Rss.flatten=((ms.map el8).map (B2 rs)).flatten:=by rw[hfl,eh6];rfl
     have pk:(ms.map el8).Perm (es.map (·.1)):=by
       have:=pm.map el8;rw[eh6] at this;exact this
     have pR:Rss.flatten.Perm rs:=by
       rw[hfl2]
       refine bm8 (pk.nodup_iff.mpr bl.nk) fun r hr'=> ?_
       exact pk.mem_iff.mpr (bl.all r hr')
     have pq:qs.flatten.Perm (Q5 0 p.length):=((cg7 jl).trans pR.flatten).trans (M4 tp up);obtain ⟨tq,lq⟩:=U4 pq;refine ⟨_,rfl,jo,js,qs,rfl,h5j,rowsJ,fun J hJ=> ?_,tq,by omega,fun o r H6 ho s56 h6o lr on=> ?_⟩
     · obtain ⟨Rs,_,hjo'⟩:=bh6 jl hJ;exact dg3 hjo'
     refine ⟨(by show 2<=sizeLine;decide),fun t ht=> ?_⟩
     have hq:∀J∈qs,N8 r J:=fun J hJ=>by
       obtain ⟨Rs,_,hjo'⟩:=bh6 jl hJ;refine ⟨dg3 hjo',bm9 tq.nd hJ,fun x hx=>tq.lo x (ef1.mpr ⟨J,hJ,hx⟩),on J hJ⟩
     have hx:∀x,In p x->∃J∈qs,ct4 p m J x:=fun x hxi=>by
       have hxf:x∈rs.flatten:=(M4 tp up).mem_iff.mpr (I0.mpr hxi);obtain ⟨r0,hr0,hxr⟩:=ef1.mp hxf;obtain ⟨Rs,hRs,hrR⟩:=ef1.mp (pR.mem_iff.mpr hr0);obtain ⟨J,hJ,l,k,l0,hm,c,hr',d1,hj,_,_⟩:=cl2 jl hRs;obtain ⟨y,L,hy,pr,er,_⟩:=up.ring r0 hr0
       have hL:L=l:=by
         have:=hr' r0 hrR;rw[er,A2] at this;exact this
       subst hL;obtain ⟨aa,haa⟩:=eh1.mp hrR;rw[er] at hxr;obtain ⟨bb,hbb,rfl⟩:=C3.mp hxr;exact ⟨J,hJ,L,k,Rs,aa,bb,y,l0,hm,c,hr',hj,(ec0.mp haa).1,hbb,hy,pr,by rw[ed0,haa];exact er,rfl⟩
     obtain ⟨tr,pw⟩:=dj0 tp (by rw[lr,lq]) hq hx
     have hro:ae2 p m r:=⟨by rw[lr,lq],fun r0 hr0=>by
       rw[<-ers] at hr0 ⊢;obtain ⟨Rs,hRs,hrR⟩:=ef1.mp (pR.mem_iff.mpr hr0);obtain ⟨J,hJ,jo'⟩:=cl2 jl hRs
       exact ⟨J,Rs,jo',hrR,hq J hJ⟩⟩
     have h05:∀b o,H b=some o->H5 b=some o:=fun b o hb=>k5 b o (s04 b o hb) (i4 hb hjo0)
     have ho0:H o=none:=by
       cases hh:H o with
       |none=>rfl
       |some z=>have:=h05 o z hh;rw[ho] at this;cases this
     have nto:o≠t:=i4 h6o ht;refine q1 t o r _ (fun b u hb=> ?_) c9 ho0 (by rw[i6 nto];exact h6o) tr (by rw[lr,lq]) pw hro;have:=s56 b u (h05 b u hb);rw[i6 (i4 this ht)];exact this
end
end My
namespace My
open PySem L2 Mth
section
variable {P:Program} {w:World} {K:PySem.W.Frag} {mg:Str->Option Value} {base:Heap}
theorem r9.keep {H H':Hp}{a:Addr}{p:List Int}(h:r9 H a p)(s:e8 H H'):r9 H' a p:=⟨s _ _ h.1,h.2⟩
noncomputable def Z5 (p:List Int)(l:Nat):Nat:=L8 (w5 p p.length) l
def dr0 (H:Hp)(t:Addr)(p:List Int)(m:Nat):Prop:=
 (∃(o:Addr) (r:List Int),H t=some (.tup [.str "root",.ref o])/\H o=some (.lst (r.map V.int))/\A1 r/\r.length=p.length/\N6 r (m:Int) p/\ae2 p m r)\/
 (∃l d:Nat,H t=some (.tup [.str "bars",.int (l:Int),.int ((Z5 p l:Nat):Int),.int (d:Int)])/\bu1 (Z5 p) m l d)
def cg8:Sp:=fun vs H Q _=>∃(a:Addr) (p:List Int) (m:Nat),vs=[.ref a,.int (m:Int)]/\r9 H a p/\1<=m/\m<=1000000000000000000000000000000/\∀(t:Addr) (H':Hp),e8 H H'->dr0 H' t p m->(∀x o,H' t=some (.tup [x,.ref o])->H o=none)->Q (.ref t) H'
theorem bw3 {k:Nat}(c:m8 P w K mg base "root_told" k ["p","m"] be1):m8 P w K mg base "root_told" k ["p","m"] cg8:=by
 refine c.imp (fun vs H Q E h=> ?_) (fun vs H Q E h=> ?_)
 · obtain ⟨a,p,m,rfl,ta,m1,m2,q⟩:=h;refine ⟨a,p,m,rfl,ta,m1,m2,fun t o r H' s ht ho0 ho tr lr pw ro=>q t H' s (.inl ⟨o,r,ht,ho,tr,lr,pw,ro⟩) (fun x o' h'=> ?_),fun t l c d H' s ht hc c1 lr nd less=>q t H' s (.inr ⟨l,d,by rw[ht,hc];rfl,⟨by rw[hc] at c1;exact c1,lr,by rw[hc] at nd;exact nd,fun k k1 kl e he=> ?_⟩⟩) (fun x o' h'=> ?_)⟩
   · rw[ht] at h'
     injection h' with h'
     injection h' with h'
     injection h' with _ h'
     injection h' with h' _
     injection h' with h'
     rw[<-h'];exact ho0
   · obtain ⟨r0,hr0,e0⟩:=bg7 (rs:=w5 p p.length) (l:=k) (by unfold Z5 at k1;omega);have:=less r0 hr0 (by omega) e (by rw[e0];exact he);rw[e0] at this;exact this
   · rw[ht] at h'
     injection h' with h'
     injection h' with h'
     have:=congrArg en0 h';simp at this
 · obtain ⟨a,p,m,rfl,_⟩:=h;rfl
end
end My
namespace My
open PySem L2 Mth
section
variable {P:Program} {w:World} {K:PySem.W.Frag} {mg:Str->Option Value} {base:Heap}
def dr1 (H:Hp)(v:V)(p:List Int)(m:Nat):Prop:=
 (v= .non/\∃l d:Nat,bu1 (Z5 p) m l d)\/
 (∃(t o:Addr) (h:Nat) (r:List Int),v= .ref t/\H t=some (.tup [.int (h:Int),.ref o])/\H o=some (.lst (r.map V.int))/\A1 r/\r.length=p.length/\N6 r (m:Int) p/\ae2 p m r/\Q7 r h)
theorem at4 (p:List Int):(C9 p).map el8=(w5 p p.length).map en0:=by
 unfold C9;rw[eh6]
 refine ej3 fun r _=> ?_
 show (r.length:Int).toNat=r.length;omega
def bh7:Sp:=fun vs H Q _=>∃(a:Addr) (p:List Int),vs=[.ref a]/\r9 H a p/\∀(h:Nat) (H':Hp),e8 H H'->Q7 p h->Q (.int (h:Int)) H'
theorem ah1 {k:Nat}(c:m8 P w K mg base "home_of" k ["p"] aa8):m8 P w K mg base "home_of" k ["p"] bh7:=by
 refine c.imp (fun vs H Q E h=> ?_) (fun vs H Q E h=> ?_)
 · obtain ⟨a,p,rfl,ta,q⟩:=h;exact ⟨a,p,rfl,ta,fun h H' s lc=>q h H' s (as4 ta.2.1 (at4 p) lc)⟩
 · obtain ⟨a,p,rfl,_⟩:=h;rfl
def ak4:Sp:=fun vs H Q _=>∃(a:Addr) (p:List Int) (m:Nat),vs=[.ref a,.int (m:Int)]/\r9 H a p/\p.length<=16/\1<=m/\m<=1000000000000000000000000000000/\∀(v:V) (H':Hp),e8 H H'->dr1 H' v p m->(∀t x o,v= .ref t->H' t=some (.tup [x,.ref o])->H o=none)->Q v H'
theorem P8:m9 ["p","m","told"] ["p","m"] (j6 S6):=by rfl'
theorem ah2 {f:Addr}{fd:FuncData}(F:x6 K "soonest_root" "soonest_root" S6 f fd)(B:Bl mg)(zvz:∃t,mg "MOST_THINGS_soonest"=some (.int 16 t))(zpx:m8 P w K mg base "root_told" 5 ["p","m"] cg8)(zry:m8 P w K mg base "home_of" 6 ["p"] bh7):n5 P w K mg base y7 7 f fd ["p","m"] ak4:=by
 refine F.ok P8 (fun vs H Q E h=> ?_) (fun cdv A outer s H vs Q E hr h=> ?_)
 · obtain ⟨a,p,m,rfl,ta,l16,m1,m2,q⟩:=h;rfl
 · obtain ⟨a,p,m,rfl,ta,l16,m1,m2,q⟩:=h;obtain ⟨_,zoz⟩:=zvz;have zdy:m7 5 _:=hr.mono (by decide);have zix:m7 6 _:=hr.mono (by decide)
   refine ⟨_,c7 (m6 (i:=2) P8.nd rfl (Or.inl rfl) (i7 zpx zdy (c5 (pv 0) (c5 (pv 1) c6))))
     (c7 (o6 (j9 au1 (x9 B.len (c5 (pv 0) c6)) (B3 (v:= .int 16) (by rfl) zoz ⟨_,rfl⟩) (j8 _)) (c8 J6) k7)
     (c7 (o6 (j9 y8 (p8 U2 (pv 2) j4 (fun _ _=>rfl)) j7 (j8 _)) (c8 (j5 O4)) k7)
     (c8 (j5 (bb6 (c5 (i7 zry zix (c5 (p8 U2 (pv 2) j4 (fun _ _=>rfl)) c6)) (c5 (p8 U2 (pv 2) j4 (fun _ _=>rfl)) c6))))))),?_⟩
   refine ⟨_,rfl,_,rfl,a,p,m,rfl,ta,m1,m2,fun t H1 s1 T1 fo=> ?_⟩;refine ⟨_,rfl,a,_,rfl,.inl (i5.of (s1 _ _ ta.1)),_,_,rfl,rfl,_,rfl,?_⟩;rw[eb8,decide_eq_false (show ¬(16:Int) < (p.length:Int) by omega)];refine n9 ?_
   rcases T1 with ⟨o,r,h1,h2,tr,lr,pw,ro⟩|⟨l,d,h1,b⟩
   · refine ⟨_,rfl,t,_,_,_,rfl,rfl,M6.of h1,o9 (j:=0) rfl,rfl,_,rfl,?_⟩;rw[decide_eq_false (fun h=>absurd (V.str.inj h) (by decide+kernel))];refine n9 ⟨_,rfl,t,_,_,_,rfl,rfl,M6.of h1,o9 (j:=1) rfl,o,r,rfl,⟨h2,tr,by rw[lr];exact ta.2.2⟩,fun h H2 s12 hh=> ?_⟩;refine ⟨_,rfl,t,_,_,_,rfl,rfl,M6.of (s12 _ _ h1),o9 (j:=1) rfl,(by show 2<=sizeLine;decide),fun u hu'=> ?_⟩;have s23:e8 H2 (i8 H2 u (.tup [.int (h:Int),.ref o])):=e8.upd_new hu';refine q _ _ ((s1.trans s12).trans s23) (.inr ⟨u,o,h,r,rfl,c9,s23 _ _ (s12 _ _ h2),tr,lr,pw,ro,hh⟩) (fun t' x o' e1 e2=> ?_)
     injection e1 with e1
     subst e1;rw[c9] at e2
     injection e2 with e2
     injection e2 with e2
     injection e2 with _ e2
     injection e2 with e2 _
     injection e2 with e2
     rw[<-e2];exact fo _ _ h1
   · refine ⟨_,rfl,t,_,_,_,rfl,rfl,M6.of h1,o9 (j:=0) rfl,rfl,_,rfl,?_⟩;rw[decide_eq_true rfl];exact A8 (q _ H1 s1 (.inl ⟨rfl,l,d,b⟩) (fun t' x o' e1 _=>V.noConfusion e1))
end
end My
namespace My
open PySem L2 Mth
section
variable {P:Program} {w:World} {K:PySem.W.Frag} {mg:Str->Option Value} {base:Heap}
def bw4 (K:PySem.W.Frag):Sp:=fun vs H Q _=>∃(a:Addr) (ns:List Int) (k:Int),vs=[.ref a,.int k]/\i5 K H a (ns.map V.int)/\0<=k/\∀z:Int,Q (.int z) H
theorem bh8:m9 ["script","k"] ["script","k"] (j6 ab7):=by rfl'
theorem bh9 {f:Addr}{fd:FuncData}(F:x6 K "_law_cell_at" "_law_cell_at" ab7 f fd)(B:Bl mg):n5 P w K mg base y7 1 f fd ["script","k"] (bw4 K):=by
 refine F.ok bh8 (fun vs H Q E h=> ?_) (fun cdv A outer s H vs Q E hr h=> ?_)
 · obtain ⟨a,ns,k,rfl,ha,k0,q⟩:=h;rfl
 · obtain ⟨a,ns,k,rfl,ha,k0,q⟩:=h
   refine ⟨_,c7 (o6 (j9 bp9 (pv 1) (x9 B.len (c5 (pv 0) c6)) (j8 _)) (c8 (j5 (p8 o0 (pv 0) (pv 1) (fun _ _=>rfl)))) k7)
     (c8 (j5 j4)),?_⟩
   refine ⟨_,rfl,_,rfl,a,_,rfl,.inl ha,_,_,rfl,rfl,_,rfl,?_⟩;rw[eb8];refine Y8 (fun h=> ?_) (fun h=>q 0);have h:k < (ns.length:Int):=of_decide_eq_true h;exact ⟨_,rfl,_,rfl,a,_,k,_,rfl,rfl,ha,M3 k0 h,q _⟩
def B1 (H:Hp)(a:Addr):Prop:=∃ds:List Int,H a=some (.lst (ds.map V.int))/\(∀x∈ds,0<=x)/\ds.length<=1000
theorem B1.some {H:Hp}{a:Addr}(h:B1 H a):∃o,H a=some o:=let ⟨_,e,_⟩:=h;⟨_,e⟩
theorem B1.same {H H':Hp}{a:Addr}(h:B1 H a)(s:e8 H H'):B1 H' a:=let ⟨ds,e,r⟩:=h;⟨ds,s _ _ e,r⟩
theorem B1.upd {H:Hp}{a b:Addr}{o:HO}(h:B1 H a)(n:a≠b):B1 (L2.i8 H b o) a:=let ⟨ds,e,r⟩:=h;⟨ds,by rw[i6 n];exact e,r⟩
theorem B1.ne {H:Hp}{a b:Addr}(h:B1 H a)(n:H b=none):b≠a:=fun z=>by obtain ⟨o,e⟩:=h.some;rw[<-z,n] at e;cases e
def W5:Sp:=fun vs H Q _=>∃(z:Int) (n:Nat),vs=[.int z,.int (n:Int)]/\n<=900/\∀(l:Addr) (H':Hp),H l=none->e8 H H'->B1 H' l->Q (.ref l) H'
theorem C7:m9 ["cell","many","found","rest","stir","k","again"] ["cell","many"] (j6 ab8):=by rfl'
theorem bi0 {f:Addr}{fd:FuncData}(F:x6 K "_law_numbers" "_law_numbers" ab8 f fd)(B:Bl mg):n5 P w K mg base y7 1 f fd ["cell","many"] W5:=by
 refine F.ok C7 (fun vs H Q E h=> ?_) (fun cdv A outer s H vs Q E hr h=> ?_)
 · obtain ⟨z,n,rfl,hn,q⟩:=h;rfl
 · obtain ⟨z,n,rfl,hn,q⟩:=h
   refine ⟨_,c7 (m6 (i:=2) C7.nd rfl (Or.inl rfl) (A6 c6))
     (c7 (m6 (i:=3) C7.nd rfl (Or.inl rfl) (pv 0))
     (c7 (m6 (i:=4) C7.nd rfl (Or.inl rfl) (q0 K6 (pv 0) j4))
     (c7 (A7 PassesOwn.never rfl (K2 (by rfl) B.range (c5 (pv 1) c6)) (o7 (i:=5) C7.nd rfl (Or.inl rfl))
       (c8 (o6 (cn7 (j9 df1 (pv 0) (q0 dn9 j4 j4) (j8 _)) (cd9 (j9 au1 (pv 3) j4 (j8 _)))).pt (c7 (x8 (C6 (pv 2) (c5 (q0 K6 (pv 3) j4) c6)))
         (c8 (m6 (i:=3) C7.nd rfl (Or.inl rfl) (q0 am8 (pv 3) j4)))) (c7 (m6 (i:=4) C7.nd rfl (Or.inl rfl) (q0 K6 (q0 O5 (q0 Q4 (q0 Q4 (pv 4) (q0 O5 j4 (pv 5))) j4) j4) j4))
         (c7 (m6 (i:=6) C7.nd rfl (Or.inl rfl) (q0 K6 (q0 O5 (q0 K6 (q0 O5 (pv 4) (pv 4)) j4) j4) j4))
         (c8 (x8 (C6 (pv 2) (c5 (q0 K6 (q0 am8 (pv 6) j4) j4) c6)))))))))
     (c8 (j5 (pv 2)))))),?_⟩
   refine ⟨ee2 _,fun l hl=> ?_⟩;have s1:e8 H (i8 H l (.lst [])):=e8.upd_new hl;have h1l:(i8 H l (.lst [])) l=some (.lst []):=c9;generalize (i8 H l (.lst []))=H1 at s1 h1l ⊢;refine ⟨_,rfl,?_⟩;refine ⟨_,rfl,_,_,rfl,rfl,(by show (0:Int) < 2147483647;decide),?_⟩
   refine ⟨_,rfl,(n:Int),rfl,by omega,by omega,M7 (lo:=0) (n:=((n:Nat):Int).toNat) (fun i σ H2=>∃(ds:List Int) (re st:Int) (v5 v6:Option V),σ=[some (.int z),some (.int (n:Int)),some (.ref l),some (.int re),some (.int st),v5,v6]/\0<=st/\st < 2147483647/\H2 l=some (.lst (ds.map V.int))/\ds.length=i/\(∀x∈ds,0<=x)/\e8 H H2)
     ⟨[],z,_,none,none,rfl,eg6 _ (by decide),ei5 _ (by decide),h1l,rfl,(fun x hx=>by cases hx),s1⟩ ?_ ?_⟩
   · rintro i σ H2 hi ⟨ds,re,st,v5,v6,rfl,st0,st1,h2l,lds,pos,s2⟩;have cp:dn8 10 18:=⟨by decide,by decide,by decide⟩
     have e64:(2:Int)^64=18446744073709551616:=by decide
     have put:∀x:Int,0<=x->(∀y∈ds++[x],0<=y):=fun x x0 y hy=>by
       rcases ed8.mp hy with k|k
       · exact pos y k
       · rw[eh0.mp k];exact x0
     have sl:e8 H (i8 H2 l (.lst (ds.map V.int))):=fun b o hb=>by rw[i6 (i4 hb hl)];exact s2 b o hb
     have kee:∀o:HO,e8 H (i8 H2 l o):=fun o b u hb=>by rw[i6 (i4 hb hl)];exact s2 b u hb
     have ls:(ds.map V.int).length < sizeLine:=p9 (by rw[eb8];omega);refine ⟨_,rfl,_,_,rfl,rfl,cp,_,_,rfl,rfl,_,rfl,?_⟩;refine Y8 (fun _=>⟨_,rfl,_,_,rfl,rfl,_,rfl,Y8 (fun _=> ?_) (fun _=> ?_)⟩) (fun _=> ?_)
     · refine ⟨_,rfl,.inl ⟨rfl,_,i5.of h2l⟩,_,rfl,_,_,rfl,rfl,(by show (0:Int) < 64;decide),l,_,_,rfl,rfl,h2l,ls,?_⟩;refine ⟨_,rfl,_,_,rfl,rfl,⟨by decide,by decide⟩,?_⟩;exact ⟨ds++[re%64],_,st,_,_,rfl,st0,st1,by rw[c9,ec3];rfl,by rw[ec2,lds];rfl,put _ (eg6 _ (by decide)),kee _⟩
     all_goals
       refine ⟨_,rfl,_,rfl,_,_,rfl,rfl,.inl ⟨by decide,by decide⟩,_,_,rfl,rfl,_,_,rfl,rfl,_,_,rfl,rfl,.inr ⟨by decide,by decide⟩,_,_,rfl,rfl,(by show (0:Int) < 2147483647;decide),?_⟩;have n0:=eg6 ((st+7*(0+(i:Int))+3)*48271) (show (2147483647:Int)≠0 by decide);have n1:=ei5 ((st+7*(0+(i:Int))+3)*48271) (show (0:Int) < 2147483647 by decide);refine ⟨_,rfl,_,rfl,_,_,rfl,rfl,.inl ⟨by rw[e64];omega,by rw[e64];omega⟩,_,_,rfl,rfl,(by show (0:Int) < 2147483629;decide),_,_,rfl,rfl,.inr ⟨by decide,by decide⟩,_,_,rfl,rfl,(by show (0:Int) < 2147483587;decide),?_⟩;refine ⟨_,rfl,.inl ⟨rfl,_,i5.of h2l⟩,_,rfl,_,_,rfl,rfl,⟨by decide,by decide⟩,_,_,rfl,rfl,(by show (0:Int) < 720720;decide),l,_,_,rfl,rfl,h2l,ls,?_⟩;exact ⟨ds++[_],_,_,_,_,rfl,n0,n1,by rw[c9,ec3];rfl,by rw[ec2,lds];rfl,put _ (eg6 _ (by decide)),kee _⟩
   · rintro σ H2 ⟨ds,re,st,v5,v6,rfl,st0,st1,h2l,lds,pos,s2⟩;exact ⟨_,rfl,q l H2 hl s2 ⟨ds,h2l,pos,by omega⟩⟩
theorem cb8:m9 ["cell","many"] ["cell","many"] (j6 an5):=by rfl'
theorem cb9 {f:Addr}{fd:FuncData}(F:x6 K "_law_deck" "_law_deck" an5 f fd)(zfz:m8 P w K mg base "_law_numbers" 1 ["cell","many"] W5):n5 P w K mg base y7 2 f fd ["cell","many"] W5:=by
 refine F.ok cb8 (fun vs H Q E h=> ?_) (fun cdv A outer s H vs Q E hr h=> ?_)
 · obtain ⟨z,n,rfl,hn,q⟩:=h;rfl
 · obtain ⟨z,n,rfl,hn,q⟩:=h;have yt:m7 1 _:=hr.mono (by decide);refine ⟨_,c8 (j5 (cs7 (i7 zfz yt (c5 (pv 0) (c5 (pv 1) c6))) (W1 (ci9 br0 j4)))),?_⟩;refine ⟨_,rfl,_,rfl,z,n,rfl,hn,fun l H2 hl s2 ⟨ds,h2l,pos,ld⟩=> ?_⟩;refine ⟨_,rfl,_,rfl,rfl,l,_,rfl,i5.of h2l,fun o ho=> ?_⟩;exact q o _ (s2.free ho) (s2.upd_r (s2.free ho)) ⟨ds.reverse,by rw[c9,List.map_reverse],fun x hx=>pos x (List.mem_reverse.mp hx),by rw[eq9];omega⟩
def ak5:Sp:=fun vs H Q _=>∃(a:Addr) (m:Int),vs=[.ref a,.int m]/\B1 H a/\0 < m/\∀(r:Int) (H':Hp),0<=r->r < m->B1 H' a->o5 a H H'->Q (.int r) H'
theorem cc0:m9 ["deck","many"] ["deck","many"] (j6 an6):=by rfl'
theorem cc1 {f:Addr}{fd:FuncData}(F:x6 K "_law_take" "_law_take" an6 f fd):n5 P w K mg base y7 1 f fd ["deck","many"] ak5:=by
 refine F.ok cc0 (fun vs H Q E h=> ?_) (fun cdv A outer s H vs Q E hr h=> ?_)
 · obtain ⟨a,m,rfl,⟨ds,ha,pos,len⟩,m0,q⟩:=h;rfl
 · obtain ⟨a,m,rfl,⟨ds,ha,pos,len⟩,m0,q⟩:=h;have hu:=O1 hr
   refine ⟨_,c7 (o6 (j9 (aj6 0 hu) (pv 0) (A6 c6) (j8 _)) (c8 (j5 j4)) k7)
     (c8 (j5 (q0 K6 (dq2 (pv 0)) (pv 1)))),?_⟩
   refine ⟨_,rfl,ee2 _,fun e he=> ?_⟩;have nae:a≠e:=i4 ha he
   have h1a:(i8 H e (.lst [])) a=some (.lst (ds.map V.int)):=by rw[i6 nae];exact ha
   have kb:o5 a H (i8 H e (.lst [])):=fun b o hb _=>by rw[i6 (i4 hb he)];exact hb
   refine ⟨a,e,ds.map V.int,[],_,rfl,rfl,i5.of h1a,i5.of c9,av0 _ _ _ _,_,rfl,?_⟩;generalize (i8 H e (.lst []))=H1 at h1a kb ⊢
   cases ds with
   |nil=>exact A8 (q 0 H1 (by decide) m0 ⟨[],h1a,pos,len⟩ kb)
   |cons x xs=>
    refine n9 ?_
    have hl:(x::xs).length - 1 < (x::xs).length:=by simp
    have hg:((x::xs).map V.int)[((x::xs).map V.int).length - 1]? =some (.int (x::xs)[(x::xs).length - 1]):=by
      rw[eb8,ec1,eb9 hl];rfl
    refine ⟨_,rfl,.inl ⟨rfl,_,i5.of h1a⟩,a,_,_,rfl,rfl,h1a,hg,_,rfl,_,_,rfl,rfl,m0,?_⟩
    refine q _ _ (eg6 _ (by omega)) (ei5 _ m0) ⟨(x::xs).dropLast,by rw[c9,List.map_dropLast],fun y hy=>pos y ((List.dropLast_sublist _).mem hy),by rw[List.length_dropLast];omega⟩ fun b o hb hn=>by rw[i6 hn];exact kb b o hb hn
end
end My
namespace My
open PySem L2 Mth
section
variable {P:Program} {w:World} {K:PySem.W.Frag} {mg:Str->Option Value} {base:Heap}
theorem at5:∀{l:List Int} {k:Nat},(l.map V.int).eraseIdx k=(l.eraseIdx k).map V.int
 |[],k=>by simp
 |a::l,0=>by simp
 |a::l,k+1=>by simp [at5 (l:=l) (k:=k)]
theorem be2:∀{l:List Int},(∀x∈l,0<=x)->0<=l.sum
 |[],_=>by simp
 |a::l,h=>by
  have:=be2 fun y hy=>h y (ec9 _ hy)
  have:=h a ec5;rw[List.sum_cons];omega
def av6:Sp:=fun vs H Q _=>∃(g:Addr) (n:Nat),vs=[.ref g,.int (n:Int)]/\B1 H g/\n<=40/\∀(l:Addr) (p:List Int) (H':Hp),H l=none->A1 p->p.length<=40->H' l=some (.lst (p.map V.int))->B1 H' g->o5 g H H'->Q (.ref l) H'
theorem E3:m9 ["deck","most","lengths","size","length","turn","left","found","one","k"] ["deck","most"] (j6 an7):=by rfl'
theorem ag4:(["k","left","deck"]:List Str).Nodup:=by decide+kernel
theorem cc2 {f:Addr}{fd:FuncData}(F:x6 K "_law_turn" "_law_turn" an7 f fd)(B:Bl mg)(zxz:m8 P w K mg base "_law_take" 1 ["deck","many"] ak5):n5 P w K mg base y7 2 f fd ["deck","most"] av6:=by
 refine F.ok E3 (fun vs H Q E h=> ?_) (fun cdv A outer s H vs Q E hr h=> ?_)
 · obtain ⟨g,n,rfl,hg,hn,q⟩:=h;rfl
 · obtain ⟨g,n,rfl,hg,hn,q⟩:=h;have zwx:m7 1 _:=hr.mono (by decide)
   refine ⟨_,c7 (m6 (i:=2) E3.nd rfl (Or.inl rfl) (A6 c6))
     (c7 (m6 (i:=3) E3.nd rfl (Or.inl rfl) (i7 zxz zwx (c5 (pv 0) (c5 (q0 Q4 (pv 1) j4) c6))))
     (c7 (V0 PassesOwn.never (j9 bp9 (cr4 rfl B.sum (c5 (pv 2) c6)) (pv 3) (j8 _))
       (c7 (m6 (i:=4) E3.nd rfl (Or.inl rfl) (q0 Q4 j4 (i7 zxz zwx (c5 (pv 0) (c5 (p8 o0 (ay6 [3,6,2,41] rfl) (i7 zxz zwx (c5 (pv 0) (c5 j4 c6))) (fun _ _=>rfl)) c6)))))
       (c8 (A7 PassesOwn.never rfl (K2 (by rfl) B.range (c5 (p8 o0 (ay6 [1,2,3,1] rfl) (i7 zxz zwx (c5 (pv 0) (c5 j4 c6))) (fun _ _=>rfl)) c6)) (o7 (i:=5) E3.nd rfl (Or.inl rfl))
         (c8 (x8 (C6 (pv 2) (c5 (cf2 rfl B.min (c5 (pv 4) (c5 (q0 bq9 (pv 3) (cr4 rfl B.sum (c5 (pv 2) c6))) c6))) c6))))))))
     (c7 (m6 (i:=6) E3.nd rfl (Or.inr rfl) (bc6 rfl B.list B.range (c5 (pv 3) c6)))
     (c7 (m6 (i:=7) E3.nd rfl (Or.inl rfl) (q0 ar2 (A6 (c5 j4 c6)) (pv 3)))
     (c7 (A7 PassesOwn.never rfl (A0 (pv 2)) (o7 (i:=4) E3.nd rfl (Or.inl rfl))
       (c7 (bg4 (i:=8) E3.nd rfl (Or.inl rfl) (N:=["k","left","deck"]) (nl:=1) (fr:=[6,0]) rfl .of (K2 (by rfl) B.range (c5 (pv 4) c6)) (fun _ _ _ _ _=>o7 (i:=0) ag4 rfl (Or.inl rfl)) (fun _ _ _ _ _=>B7) (fun _ _ _ _ _=>(bm4 K (pv 1) (c5 (i7 zxz zwx (c5 (pv 2) (c5 (ae0 K (by exact B.len) (c5 (pv 1) c6)) c6))) c6))))
       (c8 (A7 PassesOwn.never rfl (K2 (by rfl) B.range (c5 (pv 4) c6)) (o7 (i:=9) E3.nd rfl (Or.inl rfl))
         (c8 (ad3 (p8 o0 (pv 8) (pv 9) (fun _ _=>rfl)) (ad2 (pv 7) (p8 o0 (pv 8) (q0 bq9 (pv 9) j4) (fun _ _=>rfl)) V3)))))))
     (c8 (j5 (pv 7)))))))),?_⟩
   refine ⟨ee2 _,fun L hL=> ?_⟩;obtain ⟨H1,e1⟩:∃Hn,Hn=i8 H L (.lst []):=⟨_,rfl⟩;have s1:e8 H H1:=e1▸e8.upd_new hL
   have h1L:H1 L=some (.lst (([]:List Int).map V.int)):=by rw[e1,c9];rfl
   rw[<-e1];have nLg:L≠g:=hg.ne hL;refine ⟨_,rfl,_,rfl,_,_,rfl,rfl,g,(n:Int)+1,rfl,hg.same s1,by omega,fun sz H2 sz0 sz1 D2 kb2=> ?_⟩;obtain ⟨s,rfl⟩:=ef0 sz0
   have hs40:s<=40:=by omega
   have kb02:o5 g H H2:=(s1.but g).trans kb2;have h2L:=kb2 _ _ h1L nLg
   refine ⟨fun mm σ H3=>∃(ls:List Int) (v4 v5:Option V),σ=[some (.ref g),some (.int (n:Int)),some (.ref L),some (.int (s:Int)),v4,v5,none,none,none,none]/\H3 L=some (.lst (ls.map V.int))/\(∀x∈ls,0<=x)/\ls.sum<=(s:Int)/\(ls.length:Int)<=3*ls.sum/\B1 H3 g/\o5 g H H3/\mm=((s:Int) - ls.sum).toNat,
     ⟨_,[],none,none,rfl,h2L,(fun x hx=>by cases hx),by simp,by simp,D2,kb02,rfl⟩,?_⟩
   rintro mm σ H3 ⟨ls,v4,v5,rfl,h3L,lpos,lsum,llen,D3,kb3,rfl⟩;refine ⟨_,rfl,L,ls,rfl,i5.of h3L,_,rfl,_,_,rfl,rfl,_,rfl,?_⟩;refine Y8 (fun hlt=> ?_) (fun hge=> ?_)
   · have hlt:ls.sum < (s:Int):=of_decide_eq_true hlt;refine ⟨fun σ' H'=>∃m',m' < ((s:Int) - ls.sum).toNat/\_,fun _ _ h=>h,?_⟩;refine ⟨_,rfl,(show 4<=sizeLine by decide),fun e he=> ?_⟩;have nge:g≠e:=(D3.ne he).symm;refine ⟨_,rfl,g,4,rfl,D3.upd nge,by decide,fun x1 H4 x10 x11 D4 kb4=> ?_⟩;have h4e:=kb4 e _ c9 nge.symm
     obtain ⟨av,hat,av1⟩:∃av,Y2 [V.int 3,V.int 6,V.int 2,V.int 41] x1=some (.int av)/\1<=av:=by
       have:x1=0\/x1=1\/x1=2\/x1=3:=by omega
       rcases this with rfl|rfl|rfl|rfl
       · exact ⟨3,o9 (j:=0) rfl,by decide⟩
       · exact ⟨6,o9 (j:=1) rfl,by decide⟩
       · exact ⟨2,o9 (j:=2) rfl,by decide⟩
       · exact ⟨41,o9 (j:=3) rfl,by decide⟩
     have kb34:o5 g H3 H4:=((e8.upd_new he).but g).trans kb4;have h4L:=kb34 _ _ h3L nLg;refine ⟨e,_,_,_,rfl,rfl,i5.of h4e,hat,g,av,rfl,D4,by omega,fun x2 H5 x20 x21 D5 kb5=>⟨_,_,rfl,rfl,?_⟩⟩;have h5L:=kb5 _ _ h4L nLg;have kb35:=kb34.trans kb5;refine ⟨(show 4<=sizeLine by decide),fun e2 he2=> ?_⟩;have nge2:g≠e2:=(D5.ne he2).symm;refine ⟨_,rfl,g,4,rfl,D5.upd nge2,by decide,fun x3 H6 x30 x31 D6 kb6=> ?_⟩;have h6e:=kb6 e2 _ c9 nge2.symm
     obtain ⟨c,hat2,c1,c3⟩:∃c:Nat,Y2 [V.int 1,V.int 2,V.int 3,V.int 1] x3=some (.int (c:Int))/\1<=c/\c<=3:=by
       have:x3=0\/x3=1\/x3=2\/x3=3:=by omega
       rcases this with rfl|rfl|rfl|rfl
       · exact ⟨1,o9 (j:=0) rfl,by decide,by decide⟩
       · exact ⟨2,o9 (j:=1) rfl,by decide,by decide⟩
       · exact ⟨3,o9 (j:=2) rfl,by decide,by decide⟩
       · exact ⟨1,o9 (j:=3) rfl,by decide,by decide⟩
     have kb36:o5 g H3 H6:=(kb35.trans ((e8.upd_new he2).but g)).trans kb6;have h6L:=kb36 _ _ h3L nLg
     refine ⟨e2,_,_,_,rfl,rfl,i5.of h6e,hat2,(c:Int),rfl,by omega,by omega,M7 (lo:=0) (n:=((c:Nat):Int).toNat) (fun j σ H7=>∃(ks:List Int) (v5:Option V),σ=[some (.ref g),some (.int (n:Int)),some (.ref L),some (.int (s:Int)),some (.int (1+x2)),v5,none,none,none,none]/\H7 L=some (.lst (ks.map V.int))/\(∀x∈ks,0<=x)/\ks.sum<=(s:Int)/\ks.length=ls.length+j/\ls.sum<=ks.sum/\(0 < j->ls.sum < ks.sum)/\B1 H7 g/\o5 g H H7)
       ⟨ls,_,rfl,h6L,lpos,lsum,rfl,Int.le_refl _,fun h=>absurd h (by omega),D6,kb3.trans kb36⟩ ?_ ?_⟩
     · rintro j σ H7 hj ⟨ks,v5,rfl,h7L,kpos,ksum,klen,kge,kgt,D7,kb7⟩;refine ⟨_,rfl,.inl ⟨rfl,_,i5.of h7L⟩,_,rfl,_,rfl,_,rfl,L,ks,rfl,i5.of h7L,_,_,rfl,rfl,_,_,rfl,L,_,_,rfl,rfl,h7L,p9 (by rw[eb8];omega),?_⟩;obtain ⟨ad,had⟩:∃ad:Int,ad=(if (s:Int) - ks.sum < 1+x2 then (s:Int) - ks.sum else 1+x2):=⟨_,rfl⟩
       have adb:0<=ad/\ks.sum+ad<=(s:Int)/\(ks.sum < (s:Int)->1<=ad):=by
         by_cases z:(s:Int) - ks.sum < 1+x2
         · rw[if_pos z] at had;omega
         · rw[if_neg z] at had;omega
       refine ⟨ks++[ad],_,rfl,by rw[c9,had,ec3];rfl,fun x hx=> ?_,by rw[eo6,eo8];omega,by rw[ec2,ep8];omega,by rw[eo6,eo8];omega,fun _=>by rw[eo6,eo8];omega,D7.upd nLg.symm,kb7.upd_r hL⟩
       rcases ed8.mp hx with y|y
       · exact kpos x y
       · rw[eh0.mp y];exact adb.1
     · rintro σ H7 ⟨ks,v5,rfl,h7L,kpos,ksum,klen,kge,kgt,D7,kb7⟩;have kgt:=kgt (by omega);exact ⟨_,by omega,ks,_,_,rfl,h7L,kpos,ksum,by omega,D7,kb7,rfl⟩
   · have hge:¬ls.sum < (s:Int):=fun z=>hge (decide_eq_true z)
     have hsum:ls.sum=(s:Int):=by omega
     have l120:ls.length<=120:=by omega
     refine ⟨_,rfl,_,rfl,fun r hr'=> ?_⟩;obtain ⟨H4,e4⟩:∃Hn,Hn=i8 H3 r (.rng 0 (s:Int)):=⟨_,rfl⟩;have s4:e8 H3 H4:=e4▸e8.upd_new hr'
     have h4r:H4 r=some (.rng 0 (s:Int)):=by rw[e4,c9]
     rw[<-e4];refine ⟨r,0,(s:Int),rfl,h4r,⟨by decide,by decide,by omega,by omega⟩,by omega,fun lf hlf=> ?_⟩
     have e0:((s:Int) - 0).toNat=s:=by omega
     rw[e0];obtain ⟨H5,e5⟩:∃Hn,Hn=i8 H4 lf (.lst ((Q5 0 s).map V.int)):=⟨_,rfl⟩;have s5:e8 H4 H5:=e5▸e8.upd_new hlf
     have h5f:H5 lf=some (.lst ((Q5 0 s).map V.int)):=by rw[e5,c9]
     rw[<-e5];refine ⟨(show 1<=sizeLine by decide),fun z hz=> ?_⟩;obtain ⟨H6,e6⟩:∃Hn,Hn=i8 H5 z (.lst [V.int 0]):=⟨_,rfl⟩;have s6:e8 H5 H6:=e6▸e8.upd_new hz
     have h6z:H6 z=some (.lst [V.int 0]):=by rw[e6,c9]
     rw[<-e6];refine ⟨_,rfl,z,(s:Int),_,rfl,rfl,h6z,by omega,by omega,eh9 (p9 (by simp;omega)),fun fo hfo=> ?_⟩
     have erep:(ed1 (s:Int).toNat [V.int 0]).flatten=(ed1 s (0:Int)).map V.int:=by
       rw[ed7,ej6,er5]
     rw[erep];obtain ⟨H7,e7⟩:∃Hn,Hn=i8 H6 fo (.lst ((ed1 s (0:Int)).map V.int)):=⟨_,rfl⟩;have s7:e8 H6 H7:=e7▸e8.upd_new hfo
     have h7o:H7 fo=some (.lst ((ed1 s (0:Int)).map V.int)):=by rw[e7,c9]
     rw[<-e7];have s37:e8 H3 H7:=(s4.trans s5).trans (s6.trans s7);have D7:=D3.same s37;have nfg:lf≠g:=(D3.same s4).ne hlf;have nog:fo≠g:=((D3.same s4).same (s5.trans s6)).ne hfo
     have nof:fo≠lf:=fun z=>by rw[z,s6 _ _ h5f] at hfo;cases hfo
     have nLf:L≠lf:=i4 (s4 _ _ h3L) hlf;have nLo:L≠fo:=i4 ((s4.trans (s5.trans s6)) _ _ h3L) hfo;have hlf0:H lf=none:=kb3.free (s4.free hlf) nfg;have hfo0:H fo=none:=kb3.free ((s4.trans (s5.trans s6)).free hfo) nog;have kb7:o5 g H H7:=kb3.trans (s37.but g);clear e4 e5 e6 e7
     refine ⟨_,rfl,L,rfl,⟨_,i5.of (s37 _ _ h3L)⟩,E7 (K:=K) (a:=L) (xs:=ls.map V.int) (fun i σ Hx=>∃(us fs qs ms:List Int) (v4 v8 v9:Option V),σ=[some (.ref g),some (.int (n:Int)),some (.ref L),some (.int (s:Int)),v4,v5,some (.ref lf),some (.ref fo),v8,v9]/\Hx lf=some (.lst (ms.map V.int))/\Hx fo=some (.lst (fs.map V.int))/\Hx L=some (.lst (ls.map V.int))/\(us++ms).Perm (Q5 0 s)/\(us.length:Int)=(ls.take i).sum/\fs.length=s/\qs.Perm us/\us.map (A4 fs)=qs.map some/\B1 Hx g/\o5 g H Hx)
       ⟨[],_,[],_,_,none,none,rfl,(s6.trans s7) _ _ h5f,h7o,s37 _ _ h3L,List.Perm.refl _,rfl,ei3,List.Perm.refl _,rfl,D7,kb7⟩ (fun i σ Hx _ zz=>by obtain ⟨_,_,_,_,_,_,_,_,_,_,h,_⟩:=zz;exact i5.of h) ?_ ?_⟩
     · rintro i x σ H8 hi ⟨us,fs,qs,ms,v4',v8,v9,rfl,h8f,h8o,h8L,pm,ul,fl,qp,qm,D8,kb8⟩;obtain ⟨len,hlen,rfl⟩:=y9 hi;have len0:0<=len:=lpos len (ec4 hlen)
       have tsum:(ls.take (i+1)).sum=(ls.take i).sum+len:=by rw[n6 hlen,eo6,eo8]
       have tle:(ls.take (i+1)).sum<=ls.sum:=by
         have e:ls.sum=(ls.take (i+1)).sum+(ls.drop (i+1)).sum:=by rw[<-eo6,ek9]
         have:0<=(ls.drop (i+1)).sum:=be2 fun y hy=>lpos y (List.mem_of_mem_drop hy)
         omega
       obtain ⟨ln,rfl⟩:=ef0 len0
       have ums:us.length+ms.length=s:=by
         have:=pm.length_eq;rw[ec2,E2] at this;exact this
       have hln:((ln:Nat):Int).toNat=ln:=by omega
       refine ⟨_,rfl,(ln:Int),rfl,by omega,by omega,ck3 (lo:=0) (n:=((ln:Nat):Int).toNat) (fun j ys σ H9=>∃(v:Option V) (os ms':List Int),σ=[v,some (.ref lf),some (.ref g)]/\ys=os.map V.int/\os.length=j/\H9 lf=some (.lst (ms'.map V.int))/\(us++os++ms').Perm (Q5 0 s)/\B1 H9 g/\∀b o,H8 b=some o->b≠g->b≠lf->H9 b=some o)
         ⟨none,[],ms,rfl,rfl,rfl,h8f,by rw[ef4];exact pm,D8,fun b o h _ _=>h⟩ ?_ ?_⟩
       · rintro j ys σ H9 hj ⟨v,os,ms',rfl,rfl,lo,h9f,pm9,D9,kp9⟩
         have lms:us.length+os.length+ms'.length=s:=by
           have:=pm9.length_eq;rw[ec2,ec2,E2] at this;exact this
         have em:(ms'.map V.int).length=ms'.length:=eb8 ..;refine ⟨_,rfl,.inl ⟨rfl,_,i5.of h9f⟩,_,rfl,_,rfl,lf,_,rfl,.inl (i5.of h9f),g,_,rfl,D9,(by rw[em];omega),fun x H10 x0 x1 D10 kb10=> ?_⟩;rw[em] at x1;obtain ⟨jn,rfl⟩:=ef0 x0
         have hjl:jn < ms'.length:=by omega
         have h10f:=kb10 _ _ h9f nfg;refine ⟨lf,_,_,jn,.int ms'[jn],rfl,rfl,h10f,by omega,by omega,?_,by rw[ec1,eb9 hjl];rfl,p9 (by rw[eb8];omega),?_⟩
         · have:U1 (ms'.map V.int).length (jn:Int)=some jn:=by
             unfold U1;rw[em,if_pos (by omega),if_pos (by omega)];simp
           exact (au4 this).1
         · refine ⟨_,os++[ms'[jn]],ms'.eraseIdx jn,rfl,by rw[ec3];rfl,by rw[ec2,lo];rfl,by rw[c9,at5],?_,D10.upd nfg.symm,fun b o hb h1 h2=>by rw[i6 h2];exact kb10 b o (kp9 b o hb h1 h2) h1⟩;have pe:=am3 (l:=ms') (k:=jn) (eb9 hjl);refine List.Perm.trans ?_ pm9;rw[ee7,ee7,ee7];refine List.Perm.append_left us (List.Perm.append_left os pe)
       · rintro ys σ H9 ⟨v,os,ms',rfl,rfl,lo,h9f,pm9,D9,kp9⟩ oa hoa;rw[hln] at lo;obtain ⟨H10,e10⟩:∃Hn,Hn=i8 H9 oa (.lst (os.map V.int)):=⟨_,rfl⟩;have s10:e8 H9 H10:=e10▸e8.upd_new hoa
         have h10a:H10 oa=some (.lst (os.map V.int)):=by rw[e10,c9]
         rw[<-e10];have h9o:=kp9 _ _ h8o nog nof;have h9L:=kp9 _ _ h8L nLg nLf;have noag:oa≠g:=D9.ne hoa;have noaf:oa≠lf:=(i4 h9f hoa).symm;have noao:oa≠fo:=(i4 h9o hoa).symm
         have kb9:o5 g H H9:=fun b o hb h1=>kp9 b o (kb8 b o hb h1) h1 (fun z=>by rw[z,hlf0] at hb;cases hb)
         have hoa0:H oa=none:=kb9.free hoa noag;have nd9:(us++os).Nodup:=(eg5.mp (pm9.nodup_iff.mpr (N0 s))).1
         have bd9:∀x∈us++os,0<=x/\x < (s:Int):=fun x hx=>by
           have:=I0.mp (pm9.mem_iff.mp (eg0 ms' hx));omega
         have gd:∀u,(us++os).getD (us.length+u) 0=os.getD u 0:=fun u=>by
           rw[ed0,ed0,ed6 (by omega)]
           congr 2;omega
         refine ⟨_,rfl,(ln:Int),rfl,by omega,by omega,M7 (lo:=0) (n:=((ln:Nat):Int).toNat) (fun j σ H11=>∃(fs':List Int) (v9:Option V),σ=[some (.ref g),some (.int (n:Int)),some (.ref L),some (.int (s:Int)),some (.int (ln:Int)),v5,some (.ref lf),some (.ref fo),some (.ref oa),v9]/\H11 lf=some (.lst (ms'.map V.int))/\H11 fo=some (.lst (fs'.map V.int))/\H11 L=some (.lst (ls.map V.int))/\H11 oa=some (.lst (os.map V.int))/\fs'.length=s/\us.map (A4 fs')=qs.map some/\(∀w,w < j->A4 fs' (os.getD ((w+ln - 1)%ln) 0)=some (os.getD w 0))/\B1 H11 g/\o5 g H H11)
           ⟨fs,_,rfl,s10 _ _ h9f,s10 _ _ h9o,s10 _ _ h9L,h10a,fl,qm,(fun w hw=>by omega),D9.same s10,kb9.trans (s10.but g)⟩ ?_ ?_⟩
         · rintro j σ H11 hj ⟨fs',v9,rfl,h11f,h11o,h11L,h11a,fl',qm',st',D11,kb11⟩
           have hjl:j < ln:=by omega
           have hpl:(j+ln - 1)%ln < ln:=ei2 _ (by omega);refine ⟨_,rfl,_,rfl,oa,_,_,_,rfl,rfl,i5.of h11a,ay4 (by omega),?_⟩
           have hat:Y2 (os.map V.int) ((0:Int)+(j:Int) - 1)=some (.int (os.getD ((j+ln - 1)%ln) 0)):=by
             have eo:(os.map V.int).length=ln:=by rw[eb8];exact lo
             have key:U1 (os.map V.int).length ((0:Int)+(j:Int) - 1)=some ((j+ln - 1)%ln):=by
               unfold U1;rw[eo]
               by_cases z:j=0
               · rw[if_neg (by omega),if_pos (by omega)]
                 have:(j+ln - 1)%ln=ln - 1:=by rw[z,en5];exact ef9 (by omega)
                 rw[this];congr 1;omega
               · rw[if_pos (by omega),if_pos (by omega)]
                 have:(j+ln - 1)%ln=j - 1:=by
                   rw[show j+ln - 1=(j - 1)+ln by omega,el3];exact ef9 (by omega)
                 rw[this];congr 1;omega
             unfold Y2;rw[key];show (os.map V.int)[(j+ln - 1)%ln]? =_;rw[ec1,eb9 (by omega),B0 (by omega)];rfl
           refine ⟨_,rfl,_,rfl,_,rfl,_,_,rfl,rfl,oa,_,_,_,rfl,rfl,i5.of h11a,hat,?_⟩;have hv:os.getD ((j+ln - 1)%ln) 0∈us++os:=ed4 us (by rw[B0 (by omega)];exact ee5 _);have hvb:=bd9 _ hv;refine ⟨fo,_,_,(os.getD ((j+ln - 1)%ln) 0).toNat,rfl,rfl,h11o,?_,?_⟩
           · unfold U1;rw[eb8,fl',if_pos hvb.1,if_pos hvb.2]
           rw[<-ep4];refine ⟨_,_,rfl,by rw[i6 nof.symm];exact h11f,c9,by rw[i6 nLo];exact h11L,by rw[i6 noao];exact h11a,by rw[el1];exact fl',?_,?_,D11.upd nog.symm,kb11.upd_r hfo0⟩
           · rw[<-qm']
             refine ej3 fun u hu=> ?_
             have hub:=bd9 u (eg0 os hu)
             refine U5 hub.1 hvb.1 fun z=> ?_
             have:=(eg5.mp nd9).2.2 u hu (os.getD ((j+ln - 1)%ln) 0) (by rw[B0 (by omega)];exact ee5 _);exact this z
           · intro w hw
             by_cases hwj:w=j
             · subst hwj;exact Z0 (by omega)
             · have hwj':w < j:=by omega
               have hwl:(w+ln - 1)%ln < ln:=ei2 _ (by omega)
               have ne:(w+ln - 1)%ln≠(j+ln - 1)%ln:=by
                 by_cases z:w=0
                 · rw[z,en5,ef9 (show ln - 1 < ln by omega),show j+ln - 1=(j - 1)+ln by omega,el3,ef9 (by omega)];omega
                 · rw[show w+ln - 1=(w - 1)+ln by omega,show j+ln - 1=(j - 1)+ln by omega,el3,el3,ef9 (by omega),ef9 (by omega)];omega
               have hw0:=bd9 (os.getD ((w+ln - 1)%ln) 0) (ed4 us (by rw[B0 (by omega)];exact ee5 _));rw[U5 hw0.1 hvb.1 (S4 (eg5.mp nd9).2.1 (by omega) (by omega) ne)];exact st' w hwj'
         · rintro σ H11 ⟨fs',v9,rfl,h11f,h11o,h11L,h11a,fl',qm',st',D11,kb11⟩;rw[hln] at st'
           have done:∃qs':List Int,qs'.Perm (us++os)/\(us++os).map (A4 fs')=qs'.map some:=by
             by_cases z:ln=0
             · have:os=[]:=eh7.mp (by omega);subst this;exact ⟨qs,by rw[ef4];exact qp,by rw[ef4];exact qm'⟩
             · have tk:(us++os).take us.length=us:=eu6;have tk2:(us++os).take (us.length+ln)=us++os:=eh3 (by rw[ec2];omega)
               obtain ⟨qs',a1,a2⟩:=da5 (ts:=us++os) (fs:=fs') (qs:=qs) (k:=us.length) (L:=ln) (by omega) (by rw[ec2];omega) (by rw[tk];exact qm') (by rw[tk];exact qp) (fun u hu=>by
                 rw[gd,gd];have hm:(u+1)%ln < ln:=ei2 _ (by omega);have:=st' ((u+1)%ln) hm
                 have e:((u+1)%ln+ln - 1)%ln=u:=by
                   by_cases y:u+1=ln
                   · rw[y,Nat.mod_self,en5,ef9 (by omega)];omega
                   · rw[ef9 (show u+1 < ln by omega),show u+1+ln - 1=u+ln by omega,el3,ef9 hu]
                 rw[e] at this
                 exact this)
               rw[tk2] at a1 a2;exact ⟨qs',a1,a2⟩
           obtain ⟨qs',qp',qm2⟩:=done;exact ⟨us++os,fs',qs',ms',_,_,_,rfl,h11f,h11o,h11L,pm9,by rw[ec2,tsum];omega,fl',qp',qm2,D11,kb11⟩
     · rintro σ H8 ⟨us,fs,qs,ms,v4',v8,v9,rfl,h8f,h8o,h8L,pm,ul,fl,qp,qm,D8,kb8⟩;rw[eb8,ee1,hsum] at ul;have ums:=pm.length_eq;rw[ec2,E2] at ums;have:ms=[]:=eh7.mp (by omega);subst this;rw[ef4] at pm;obtain ⟨hU,hUl⟩:=U4 pm;have pf:=(am2 hU (by omega) qm).trans (qp.trans pm);obtain ⟨hF,hFl⟩:=U4 pf;exact ⟨_,rfl,q fo fs H8 hfo0 hF (by omega) h8o D8 kb8⟩
def N5 (n:Nat)(xs:List Int):List V:=(eh4 n).map fun (k:Nat)=>V.bl (decide ((k:Int)∈xs))
theorem dc7 (n:Nat):ed1 n (V.bl false)=N5 n []:=by
 unfold N5
 refine List.ext_getElem (by simp) fun i h1 h2=> ?_
 simp
theorem dc8 {n:Nat}{xs:List Int}:(N5 n xs).length=n:=by unfold N5;simp
theorem cg9 {n:Nat}{xs:List Int}{x:Int}(h0:0<=x)(h1:x < n):U1 (N5 n xs).length x=some x.toNat:=by
 unfold U1;rw[dc8,if_pos h0,if_pos h1]
theorem ch0 {n:Nat}{xs:List Int}{x:Int}(h0:0<=x)(h1:x < n):Y2 (N5 n xs) x=some (.bl (decide (x∈xs))):=by
 unfold Y2;rw[cg9 h0 h1];show (N5 n xs)[x.toNat]? =_;unfold N5;rw[ec1,ej4 (by omega)];show some (V.bl (decide (((x.toNat:Nat):Int)∈xs)))=_;rw[ek6 h0]
theorem dc9 {n:Nat}{xs:List Int}{x:Int}(h0:0<=x):(N5 n xs).set x.toNat (.bl true)=N5 n (xs++[x]):=by
 unfold N5
 refine List.ext_getElem (by simp) fun i h1 h2=> ?_
 rw[List.getElem_set];simp only[List.getElem_map,List.getElem_range,ed8,eh0]
 by_cases z:x.toNat=i
 · rw[if_pos z,decide_eq_true (Or.inr (by omega))]
 · rw[if_neg z]
   congr 1
   exact decide_eq_decide.mpr ⟨Or.inl,fun h=>h.elim id fun e=>absurd (by omega) z⟩
theorem M5:m9 ["p","found","met","thing","one"] ["p"] (j6 af1):=by rfl'
theorem bo5 {f:Addr}{fd:FuncData}(F:x6 K "_law_rounds" "_law_rounds" af1 f fd)(B:Bl mg):n5 P w K mg base y7 1 f fd ["p"] J0:=by
 refine F.ok M5 (fun vs H Q E h=> ?_) (fun cdv A outer s H vs Q E hr h=> ?_)
 · obtain ⟨a,p,rfl,⟨ha,tp,lp⟩,q⟩:=h;rfl
 · obtain ⟨a,p,rfl,⟨ha,tp,lp⟩,q⟩:=h;have hu:=O1 hr
   refine ⟨_,c7 (m6 (i:=1) M5.nd rfl (Or.inl rfl) (A6 c6))
     (c7 (m6 (i:=2) M5.nd rfl (Or.inl rfl) (q0 ar2 (A6 (c5 E5 c6)) (x9 B.len (c5 (pv 0) c6))))
     (c7 (A7 PassesOwn.never rfl (K2 (by rfl) B.range (c5 (x9 B.len (c5 (pv 0) c6)) c6)) (o7 (i:=3) M5.nd rfl (Or.inl rfl))
       (c7 (m6 (i:=4) M5.nd rfl (Or.inl rfl) (A6 c6))
       (c7 (V0 PassesOwn.never (K5 (G8 (p8 o0 (pv 2) (pv 3) (fun _ _=>rfl))))
         (c7 (ad3 E5 (ad2 (pv 2) (pv 3) V3))
         (c7 (x8 (C6 (pv 4) (c5 (pv 3) c6)))
         (c8 (m6 (i:=3) M5.nd rfl (Or.inl rfl) (p8 o0 (pv 0) (pv 3) (fun _ _=>rfl)))))))
       (c8 (o6 (j9 (bc5 0 hu) (pv 4) (A6 c6) (j8 _)) (c8 (x8 (C6 (pv 1) (c5 (pv 4) c6)))) k7)))))
     (c8 (j5 (pv 1))))),?_⟩
   refine ⟨ee2 _,fun l hl=> ?_⟩;obtain ⟨H1,e1⟩:∃Hn,Hn=i8 H l (.lst []):=⟨_,rfl⟩;have s1:e8 H H1:=e1▸e8.upd_new hl
   have h1l:H1 l=some (.lst []):=by rw[e1,c9]
   rw[<-e1];refine ⟨(show 1<=sizeLine by decide),fun z hz=> ?_⟩;obtain ⟨H2,e2⟩:∃Hn,Hn=i8 H1 z (.lst [V.bl false]):=⟨_,rfl⟩;have s2:e8 H1 H2:=e2▸e8.upd_new hz
   have h2z:H2 z=some (.lst [V.bl false]):=by rw[e2,c9]
   rw[<-e2];refine ⟨_,rfl,a,_,rfl,.inl (i5.of ((s1.trans s2) _ _ ha)),z,_,_,rfl,rfl,h2z,by rw[eb8];omega,by rw[eb8];omega,eh9 (p9 (by simp;omega)),fun d hd=> ?_⟩
   have erep:(ed1 (((p.map V.int).length:Nat):Int).toNat [V.bl false]).flatten=N5 p.length []:=by
     rw[ed7,ej6,eb8];exact dc7 p.length
   rw[erep];obtain ⟨H3,e3⟩:∃Hn,Hn=i8 H2 d (.lst (N5 p.length [])):=⟨_,rfl⟩;have s3:e8 H2 H3:=e3▸e8.upd_new hd
   have h3d:H3 d=some (.lst (N5 p.length [])):=by rw[e3,c9]
   rw[<-e3];have s03:e8 H H3:=s1.trans (s2.trans s3);have hd0:H d=none:=(s1.trans s2).free hd;have nld:l≠d:=i4 (s2 _ _ h1l) hd;have nad:a≠d:=i4 ha hd0;refine ⟨_,rfl,a,_,rfl,.inl (i5.of (s03 a _ ha)),(p.length:Int),by rw[eb8],by omega,by omega,?_⟩;rw[show ((p.length:Int)).toNat=p.length by omega]
   refine M7 (lo:=0) (n:=p.length) (fun i σ H3=>∃(as:List Addr) (rs:List (List Int)) (v3 v4:Option V),σ=[some (.ref a),some (.ref l),some (.ref d),v3,v4]/\H3 l=some (.lst (as.map V.ref))/\H3 d=some (.lst (N5 p.length rs.flatten))/\C8 H3 as rs/\C4 p i rs/\e8 H H3/\(∀b∈as,H b=none)/\as.Nodup/\l∉as/\d∉as)
     ⟨[],[],none,none,rfl,(s2.trans s3) _ _ h1l,h3d,⟨rfl,fun j b r h=>by simp at h⟩,am5 p,s03,(fun b hb=>by cases hb),ek7,by simp,by simp⟩ ?_ ?_
   · rintro i σ H3 hi ⟨as,rs,v3,v4,rfl,h3l,h3d,rows,up,s3,fa,nda,nla,nda2⟩;have hx:In p (i:Int):=⟨by omega,by omega⟩
     have e0:(0:Int)+(i:Int)=(i:Int):=by omega
     rw[e0];refine ⟨ee2 _,fun e he=> ?_⟩;have nle:l≠e:=i4 h3l he;have nde:d≠e:=i4 h3d he;have he0:H e=none:=s3.free he;obtain ⟨H4,e4⟩:∃Hn,Hn=i8 H3 e (.lst []):=⟨_,rfl⟩;have s4:e8 H3 H4:=e4▸e8.upd_new he
     have h4e:H4 e=some (.lst ((w9 p i 0).map V.int)):=by rw[e4,c9];rfl
     rw[<-e4]
     by_cases hm:(i:Int)∈rs.flatten
     · refine ⟨fun mm σ H5=>mm=0/\σ=[some (.ref a),some (.ref l),some (.ref d),some (.int (i:Int)),some (.ref e)]/\H5=H4,⟨0,rfl,rfl,rfl⟩,?_⟩;rintro mm σ H5 ⟨rfl,rfl,rfl⟩;refine ⟨_,rfl,_,rfl,d,_,_,_,rfl,rfl,i5.of (s4 _ _ h3d),ch0 hx.1 hx.2,_,rfl,?_⟩;rw[decide_eq_true hm];refine n9 ⟨_,rfl,ee2 _,fun w hw=> ?_⟩;have s5:e8 H5 (i8 H5 w (.lst [])):=e8.upd_new hw;have h5w:(i8 H5 w (.lst [])) w=some (.lst []):=c9;generalize (i8 H5 w (.lst []))=H6 at s5 h5w ⊢;refine ⟨e,w,_,_,_,rfl,rfl,i5.of (s5 _ _ h4e),i5.of h5w,av0 _ _ _ _,_,rfl,?_⟩;have s36:=s4.trans s5;refine n9 ?_;exact ⟨as,rs,_,_,rfl,s36 _ _ h3l,s36 _ _ h3d,O0 rows fun b hb o ho=>s36 _ _ ho,am6 up hm,s3.trans s36,fa,nda,nla,nda2⟩
     · obtain ⟨L,pr⟩:=bc9 tp hx;have fr:=ah8 up pr hm;have fl:=ak2 tp up;have cl:=V8 up;have lenas:=rows.1
       have lL:=O2 tp hx (m:=L) fun j j0 j1=>pr.least j j0 j1
       refine ⟨fun mm σ H5=>∃j:Nat,j<=L/\σ=[some (.ref a),some (.ref l),some (.ref d),some (.int (it p j i)),some (.ref e)]/\H5 e=some (.lst ((w9 p i j).map V.int))/\H5 d=some (.lst (N5 p.length (rs.flatten++w9 p i j)))/\(∀b o,H3 b=some o->b≠d->H5 b=some o)/\mm=L - j,
         ⟨L,0,ee2 _,rfl,h4e,by rw[s4 _ _ h3d];unfold w9;rw[List.range_zero,eo9,ef4],fun b o h _=>s4 b o h,rfl⟩,?_⟩
       rintro mm σ H5 ⟨j,jL,rfl,h5e,h5d,k5,rfl⟩;have hin:=U8 tp hx j;refine ⟨_,rfl,_,rfl,d,_,_,_,rfl,rfl,i5.of h5d,ch0 hin.1 hin.2,_,rfl,?_⟩
       by_cases hj:j=L
       · subst hj;rw[decide_eq_true (show it p j i∈rs.flatten++w9 p i j by rw[pr.back];exact ed4 _ (C3.mpr ⟨0,pr.pos,rfl⟩))];refine n9 ⟨_,rfl,ee2 _,fun w hw=> ?_⟩;have s5:e8 H5 (i8 H5 w (.lst [])):=e8.upd_new hw;have h5w:(i8 H5 w (.lst [])) w=some (.lst []):=c9;generalize (i8 H5 w (.lst []))=H6 at s5 h5w ⊢;refine ⟨e,w,_,_,_,rfl,rfl,i5.of (s5 _ _ h5e),i5.of h5w,av0 _ _ _ _,_,rfl,?_⟩
         have ne0:((w9 p i j).map V.int).isEmpty=false:=by
           rw[List.isEmpty_eq_false_iff];intro z;have:=congrArg en0 z;rw[eb8,A2] at this;have:=pr.pos;simp at*;omega
         rw[ne0];refine A8 ?_;have h6l:=s5 _ _ (k5 l _ h3l nld);refine ⟨_,rfl,.inl ⟨rfl,_,i5.of h6l⟩,_,rfl,l,_,_,rfl,rfl,h6l,p9 (by rw[eb8,lenas];omega),?_⟩
         have es:as.map V.ref++[V.ref e]=(as++[e]).map V.ref:=by rw[ec3];rfl
         rw[es]
         have nad:∀b∈as,b≠d/\b≠l:=fun b hb=>⟨fun z=>nda2 (z▸hb),fun z=>nla (z▸hb)⟩
         refine ⟨as++[e],rs++[w9 p i j],_,_,rfl,c9,?_,?_,am7 tp up hx pr hm,?_,?_,?_,?_,?_⟩
         · rw[i6 nld.symm,s5 _ _ h5d,eg3,ei8]
         · refine W4 (O0 rows fun b hb o ho=> ?_) ?_
           · rw[i6 (nad b hb).2];exact s5 _ _ (k5 b o ho (nad b hb).1)
           · rw[i6 nle.symm];exact s5 _ _ h5e
         · intro b o hb;rw[i6 (i4 hb hl)];exact s5 _ _ (k5 b o (s3 b o hb) (i4 hb hd0))
         · intro b hb
           rcases ed8.mp hb with g|g
           · exact fa b g
           · rw[eh0.mp g];exact he0
         · refine au9 nda fun g=> ?_
           obtain ⟨r,hr'⟩:=az6 rows g;rw[he] at hr';cases hr'
         · intro g
           rcases ed8.mp g with g|g
           · exact nla g
           · exact nle (eh0.mp g)
         · intro g
           rcases ed8.mp g with g|g
           · exact nda2 g
           · exact nde (eh0.mp g)
       · have hjL:j < L:=by omega
         have nm:it p j i∉rs.flatten++w9 p i j:=fun g=>by
           rcases ed8.mp g with g|g
           · exact fr _ (C3.mpr ⟨j,hjL,rfl⟩) g
           · obtain ⟨b,hb,e1⟩:=C3.mp g
             have e2:j=(j - b)+b:=by omega
             rw[e2,J8] at e1;have:=ar8 tp (U8 tp hx (j - b)) hx b (by rw[<-J8,ek3,J8];exact e1);exact pr.least (j - b) (by omega) (by omega) this
         rw[decide_eq_false nm];refine A8 ⟨fun σ' H'=>∃m',m' < L - j/\_,fun _ _ h=>h,?_⟩;refine ⟨_,rfl,_,rfl,d,_,_,(it p j i).toNat,rfl,rfl,h5d,cg9 hin.1 hin.2,?_⟩;rw[dc9 hin.1]
         have h6d:(i8 H5 d (.lst (N5 p.length (rs.flatten++w9 p i j++[it p j i])))) d=some (.lst (N5 p.length (rs.flatten++w9 p i (j+1)))):=by rw[c9,am4,ee7]
         have h6e:(i8 H5 d (.lst (N5 p.length (rs.flatten++w9 p i j++[it p j i])))) e=some (.lst ((w9 p i j).map V.int)):=by rw[i6 nde.symm];exact h5e
         have k6:∀b o,H3 b=some o->b≠d->(i8 H5 d (.lst (N5 p.length (rs.flatten++w9 p i j++[it p j i])))) b=some o:=fun b o hb hn=>by rw[i6 hn];exact k5 b o hb hn
         generalize (i8 H5 d (.lst (N5 p.length (rs.flatten++w9 p i j++[it p j i]))))=H6 at h6d h6e k6 ⊢;refine ⟨_,rfl,.inl ⟨rfl,_,i5.of h6e⟩,_,rfl,e,_,_,rfl,rfl,h6e,p9 (by rw[eb8,A2];omega),?_⟩;have nae:a≠e:=i4 (s3 a _ ha) he;refine ⟨_,rfl,_,rfl,a,_,_,_,rfl,rfl,i5.of (by rw[i6 nae];exact k6 a _ (s3 a _ ha) nad),M3 hin.1 hin.2,?_⟩
         have h7e:(i8 H6 e (.lst ((w9 p i j).map V.int++[.int (it p j i)]))) e=some (.lst ((w9 p i (j+1)).map V.int)):=by
           rw[c9,am4,ec3];rfl
         exact ⟨L - (j+1),by omega,j+1,by omega,rfl,h7e,by rw[i6 nde];exact h6d,fun b o hb hn=>by rw[i6 (i4 hb he)];exact k6 b o hb hn,rfl⟩
   · rintro σ H3 ⟨as,rs,v3,v4,rfl,h3l,h3d,rows,up,s3,fa,nda,nla,nda2⟩;exact ⟨_,rfl,q l as rs H3 hl s3 h3l rows up fa nda nla⟩
end
end My
namespace My
open PySem L2 Mth
section
variable {P:Program} {w:World} {K:PySem.W.Frag} {mg:Str->Option Value} {base:Heap}
def q9 (i:Int):Str:=Str.ofString (toString i)
theorem dl1:∀k,k < 40->(q9 (k:Nat)).cps.toList.length<=2/\1<=(q9 (k:Nat)).cps.toList.length/\32∉(q9 (k:Nat)).cps.toList/\40∉(q9 (k:Nat)).cps.toList/\41∉(q9 (k:Nat)).cps.toList:=by decide+kernel
theorem dd0:∀j,j < 40->∀k,k < 40->q9 (j:Nat)=q9 (k:Nat)->j=k:=by decide+kernel
theorem ak6 {i:Int}(h0:0<=i)(h1:i < 40):(q9 i).cps.toList.length<=2/\1<=(q9 i).cps.toList.length/\32∉(q9 i).cps.toList/\40∉(q9 i).cps.toList/\41∉(q9 i).cps.toList:=by
 obtain ⟨k,rfl⟩:=ef0 h0;exact dl1 k (by omega)
theorem dl2 {i j:Int}(h0:0<=i)(h1:i < 40)(g0:0<=j)(g1:j < 40)(h:q9 i=q9 j):i=j:=by
 obtain ⟨k,rfl⟩:=ef0 h0;obtain ⟨m,rfl⟩:=ef0 g0;have:=dd0 k (by omega) m (by omega) h;omega
theorem cl4 {k:Nat}(hk:200<=k){i:Int}(h0:0<=i)(h1:i < 40):i.natAbs.log2 < k:=by
 by_cases z:i.natAbs=0
 · rw[z,Nat.log2_zero];omega
 · refine (Nat.log2_lt z).mpr (ee9 (m:=2^6) (by omega) (Nat.pow_le_pow_right (by decide) (by omega)))
def y6 (r:List Int):Str:=Txt.join " " (r.map q9)
theorem ab0 {sep:Str}{ts:List Str}{B:Nat}(hB:∀y∈ts,y.length<=B)(h:ts.length*B+ts.length*sep.length<=16777216):JoinOk sep ts=true:=by
 unfold JoinOk;rw[StrLaws.joinFits hB h];rfl
theorem dd1 {sep:Str}{c:Nat}(hs:c∉sep.cps.toList):∀{ts:List Str},(∀t∈ts,c∉t.cps.toList)->c∉(Txt.join sep ts).cps.toList:=by
 intro ts h;show c∉(Builtin.Str.glued sep ts).cps.toList;rw[StrLaws.glued_eq_join,O3]
 induction ts with
 |nil=>exact fun z=>by cases z
 |cons t r ih=>
  cases r with
  |nil=>exact h t ec5
  |cons u r=>
   intro z;have z:c∈t.cps.toList++sep.cps.toList++Mth.ac3 sep.cps.toList ((u::r).map (·.cps.toList)):=z
   rcases ed8.mp z with z|z
   · rcases ed8.mp z with z|z
     · exact h t ec5 z
     · exact hs z
   · exact ih (fun y hy=>h y (ec9 _ hy)) z
theorem dd2 {r:List Int}{c:Nat}(hc:c=40\/c=41)(br:∀x∈r,0<=x/\x < 40):c∉(y6 r).cps.toList:=by
 refine dd1 (by rcases hc with rfl|rfl<;>decide+kernel) fun t ht=> ?_
 obtain ⟨i,hi,rfl⟩:=ee3.mp ht;have:=ak6 (br i hi).1 (br i hi).2
 rcases hc with rfl|rfl
 · exact this.2.2.2.1
 · exact this.2.2.2.2
theorem ah3 {r:List Int}(lr:r.length<=40)(br:∀x∈r,0<=x/\x < 40):(y6 r).length<=120:=by
 have h:=StrLaws.join_length_le " " (r.map q9)
 have e:(y6 r).length=(Str.join " " (r.map q9)).length:=by
   show (Builtin.Str.glued " " (r.map q9)).length=_;rw[StrLaws.glued_eq_join]
 have s:=StrLaws.sumLen_le (B:=2) (r.map q9) (fun y hy=>by obtain ⟨i,hi,rfl⟩:=ee3.mp hy;exact (ak6 (br i hi).1 (br i hi).2).1)
 have sl:(Str.ofString " ").length=1:=by decide+kernel
 rw[e];rw[eb8] at h s
 have h':(Str.join " " (r.map q9)).length<=((r.map q9).map (·.length)).sum+r.length*1:=by rw[<-sl];exact h
 omega
theorem cv3 {m:Str}:Txt.slice ("("++m++")") (some 1) (some (-1))=m:=by
 have l1:(Str.ofString "(").length=1:=by decide+kernel
 have l2:(Str.ofString ")").length=1:=by decide+kernel
 obtain ⟨y,hy⟩:∃y:Str,y=Str.ofString "("++m++Str.ofString ")":=⟨_,rfl⟩
 have ly:y.length=m.length+2:=by rw[hy,Str.length_append,Str.length_append,l1,l2];omega
 have eb:Builtin.Str.strSliceIndices (some 1) (some (-1)) 1 y.length=Builtin.Str.strSliceIndices (some ((1:Nat):Int)) (some ((m.length+1:Nat):Int)) 1 y.length:=by
   unfold Builtin.Str.strSliceIndices;rw[ly];simp only[show (-1:Int) < 0 by decide,if_true,show ¬(((m.length+1:Nat):Int) < 0) by omega,if_false]
   congr 1
   omega
 show Txt.slice (Str.ofString "("++m++Str.ofString ")") (some 1) (some (-1))=m;rw[<-hy];unfold Txt.slice;rw[eb,StrLaws.sliced_plain y (by omega) (by omega)]
 have nl:(Builtin.Str.strSliceIndices (some ((1:Nat):Int)) (some ((m.length+1:Nat):Int)) 1 y.length).length=m.length:=by
   rw[StrLaws.strSliceIndices_plain (by omega) (by omega),eb8,eg9];omega
 rw[if_neg (by rw[nl];simp;omega)];refine O6 ?_;show (y.cps.toList.drop 1).take (m.length+1 - 1)=m.cps.toList;rw[hy,C2,C2,show (Str.ofString "(").cps.toList=[40] by decide+kernel];show (List.drop 1 (40::(m.cps.toList++_))).take m.length=_;rw[List.drop_succ_cons,eu7];exact List.take_left' rfl
def bi1:Sp:=fun vs H Q _=>∃(a:Addr) (r:List Int),vs=[.ref a]/\H a=some (.lst (r.map V.int))/\r.length<=40/\(∀x∈r,0<=x/\x < 40)/\∀H',e8 H H'->Q (.str (y6 r)) H'
theorem bo6:m9 ["ring"] ["ring"] (j6 ae6):=by rfl'
theorem aq5:(["thing"]:List Str).Nodup:=by decide+kernel
theorem bo7 {f:Addr}{fd:FuncData}(F:x6 K "show_round" "show_round" ae6 f fd)(B:Bl mg):n5 P w K mg base y7 1 f fd ["ring"] bi1:=by
 refine F.ok bo6 (fun vs H Q E h=> ?_) (fun cdv A outer s H vs Q E hr h=> ?_)
 · obtain ⟨a,r,rfl,ha,lr,br,q⟩:=h;rfl
 · obtain ⟨a,r,rfl,ha,lr,br,q⟩:=h;refine ⟨_,c8 (j5 (ak1 j7 (c5 (G9 (N:=["thing"]) (nl:=1) (fr:=[]) rfl .of (A0 (pv 0)) (fun _ _ _ _ _=>o7 (i:=0) aq5 rfl (Or.inl rfl)) (fun _ _ _ _ _=>B7) (fun _ _ _ _ _=>(K4 B.str (c5 (pv 0) c6)))) c6))),?_⟩;refine ⟨rfl,?_⟩;refine ⟨_,rfl,a,rfl,⟨_,i5.of ha⟩,C0 (K:=K) (a:=a) (xs:=r.map V.int) (fun i ys σ H1=>∃v:Option V,σ=[v]/\H1=H/\ys=((r.take i).map q9).map V.str) ⟨none,rfl,rfl,rfl⟩ (fun i ys σ H1 _ zz=>by obtain ⟨_,_,e,_⟩:=zz;rw[e];exact i5.of ha) ?_ ?_⟩
   · rintro i x ys σ H1 hi ⟨v,rfl,rfl,rfl⟩;obtain ⟨z,hz,rfl⟩:=y9 hi;have zb:=br z (ec4 hz);refine ⟨_,rfl,z,rfl,cl4 (by decide) zb.1 zb.2,p9 (by simp only[eb8,ed3];omega),_,rfl,rfl,?_⟩;rw[n6 hz,ec3,ec3];rfl
   · rintro ys σ H1 ⟨v,rfl,rfl,rfl⟩ D hD;rw[eb8,ee1];refine ⟨" ",D,r.map q9,rfl,rfl,i5.of c9,ab0 (B:=2) (fun y hy=> ?_) ?_,q _ (e8.upd_new hD)⟩
     · obtain ⟨i,hi,rfl⟩:=ee3.mp hy;exact (ak6 (br i hi).1 (br i hi).2).1
     · have sl:(Str.ofString " ").length=1:=by decide+kernel
       rw[eb8,sl];omega
noncomputable def K1 (p:List Int):Str:=Str.ofString "("++Txt.join (Str.ofString ")(") ((w5 p p.length).map y6)++Str.ofString ")"
theorem O7 {p:List Int}{rs:List (List Int)}(tp:A1 p)(lp:p.length<=40)(up:C4 p p.length rs):rs.length<=40/\∀r∈rs,r≠[]/\r.length<=40/\∀x∈r,0<=x/\x < 40:=by
 have fl:=M4 tp up
 have ll:rs.flatten.length=p.length:=by rw[fl.length_eq,E2]
 refine ⟨by have:=V8 up;omega,fun r hr=>⟨fun z=> ?_,?_,fun x hx=> ?_⟩⟩
 · obtain ⟨y,L,_,pr,er,_⟩:=up.ring r hr;have:=pr.pos;rw[z] at er;have e2:=congrArg en0 er;rw[A2] at e2;simp at e2;omega
 · have:=(er0 hr).length_le;omega
 · have:=I0.mp (fl.mem_iff.mp (ef1.mpr ⟨r,hr,hx⟩));omega
theorem at6 {rs:List (List Int)}(h:rs.length<=40)(hb:∀r∈rs,r≠[]/\r.length<=40/\∀x∈r,0<=x/\x < 40):JoinOk (Str.ofString ")(") (rs.map y6)=true/\(Txt.join (Str.ofString ")(") (rs.map y6)).length<=4880:=by
 have sl:(Str.ofString ")(").length=2:=by decide+kernel
 have hB:∀y∈rs.map y6,y.length<=120:=fun y hy=>by
   obtain ⟨r,hr,rfl⟩:=ee3.mp hy;exact ah3 (hb r hr).2.1 (hb r hr).2.2
 refine ⟨ab0 hB (by rw[eb8,sl];omega),?_⟩
 have e:(Txt.join (Str.ofString ")(") (rs.map y6)).length=(Str.join (Str.ofString ")(") (rs.map y6)).length:=by
   show (Builtin.Str.glued _ _).length=_;rw[StrLaws.glued_eq_join]
 have a:=StrLaws.join_length_le (Str.ofString ")(") (rs.map y6);have b:=StrLaws.sumLen_le (B:=120) (rs.map y6) hB;rw[sl] at a;rw[eb8] at a b;omega
def ab1:Sp:=fun vs H Q _=>∃(a:Addr) (p:List Int),vs=[.ref a]/\r9 H a p/\∀H',e8 H H'->Q (.str (K1 p)) H'
theorem bw5:m9 ["p"] ["p"] (j6 ai6):=by rfl'
theorem aw1:(["ring"]:List Str).Nodup:=by decide+kernel
theorem bw6 {f:Addr}{fd:FuncData}(F:x6 K "show_turn" "show_turn" ai6 f fd)(zjy:m8 P w K mg base "rounds_of" 4 ["p"] J0)(zdx:m8 P w K mg base "show_round" 1 ["ring"] bi1):n5 P w K mg base y7 5 f fd ["p"] ab1:=by
 refine F.ok bw5 (fun vs H Q E h=> ?_) (fun cdv A outer s H vs Q E hr h=> ?_)
 · obtain ⟨a,p,rfl,tp,q⟩:=h;rfl
 · obtain ⟨a,p,rfl,tp,q⟩:=h;have yo:m7 4 _:=hr.mono (by decide);have yrx:m7 1 _:=hr.mono (by decide);refine ⟨_,c8 (j5 (q0 J4 (q0 J4 j7 (ak1 j7 (c5 (G9 (N:=["ring"]) (nl:=1) (fr:=[]) rfl .of (A0 (i7 zjy yo (c5 (pv 0) c6))) (fun _ _ _ _ _=>o7 (i:=0) aw1 rfl (Or.inl rfl)) (fun _ _ _ _ _=>B7) (fun _ _ _ _ _=>(i7 zdx yrx (c5 (pv 0) c6)))) c6))) j7)),?_⟩;refine ⟨rfl,?_⟩;refine ⟨_,rfl,a,p,rfl,tp,fun l as rs H1 hl s1 h1l rows up _ _ _=> ?_⟩;obtain ⟨f1,f2⟩:=O7 tp.2.1 tp.2.2 up;refine ⟨l,rfl,⟨_,i5.of h1l⟩,C0 (K:=K) (a:=l) (xs:=as.map V.ref) (fun i ys σ H2=>∃v:Option V,σ=[v]/\e8 H1 H2/\ys=((rs.take i).map y6).map V.str) ⟨none,rfl,e8.refl H1,rfl⟩ (fun i ys σ H2 _ zz=>by obtain ⟨_,_,s,_⟩:=zz;exact i5.of (s _ _ h1l)) ?_ ?_⟩
   · rintro i x ys σ H2 hi ⟨v,rfl,s2,rfl⟩;rw[ec1] at hi
     cases hB:as[i]? with
     |none=>rw[hB] at hi;cases hi
     |some b=>
      rw[hB] at hi;cases hi
      have hil:i < rs.length:=by rw[<-rows.1];exact (ec0.mp hB).1
      have hr':=eb9 hil;have hb:=s2 _ _ (rows.2 i b _ hB hr');obtain ⟨r1,r2,r3⟩:=f2 rs[i] (ee5 hil);refine ⟨_,rfl,b,_,rfl,hb,r2,r3,fun H3 s3=>⟨p9 (by simp only[eb8,ed3];omega),_,rfl,s2.trans s3,?_⟩⟩;rw[n6 hr',ec3,ec3];rfl
   · rintro ys σ H2 ⟨v,rfl,s2,rfl⟩ D hD;rw[eb8,rows.1,ee1];obtain ⟨ok,ln⟩:=at6 f1 f2
     have l1:(Str.ofString "(").length=1:=by decide+kernel
     have l2:(Str.ofString ")").length=1:=by decide+kernel
     refine ⟨Str.ofString ")(",D,rs.map y6,rfl,rfl,i5.of c9,ok,_,_,rfl,rfl,(by rw[l1,sizeLine_eq];omega),_,_,rfl,rfl,(by rw[Str.length_append,l1,l2,sizeLine_eq];omega),?_⟩;have:=q _ ((s1.trans s2).trans (e8.upd_new (o:= .lst ((rs.map y6).map V.str)) hD));unfold K1 at this;rw[<-up.eq] at this;exact this
def bi2:Sp:=fun vs H Q _=>∃(i:Int),vs=[.str (q9 i)]/\0<=i/\i < 40/\Q (.int i) H
theorem aq0:m9 ["word","thing"] ["word"] (j6 ae7):=by rfl'
theorem bo8 {f:Addr}{fd:FuncData}(F:x6 K "read_thing" "read_thing" ae7 f fd)(B:Bl mg)(yxz:∃t,mg "MOST_THINGS_turns"=some (.int 40 t)):n5 P w K mg base y7 1 f fd ["word"] bi2:=by
 refine F.ok aq0 (fun vs H Q E h=> ?_) (fun cdv A outer s H vs Q E hr h=> ?_)
 · obtain ⟨i,rfl,i0,i1,q⟩:=h;rfl
 · obtain ⟨i,rfl,i0,i1,q⟩:=h;obtain ⟨_,yxy⟩:=yxz
   refine ⟨_,c7 (A7 PassesOwn.never rfl (K2 (by rfl) B.range (c5 (B3 (v:= .int 40) (by rfl) yxy ⟨_,rfl⟩) c6)) (o7 (i:=1) aq0.nd rfl (Or.inl rfl))
       (c8 (o6 (j9 y8 (pv 0) (K4 B.str (c5 (pv 1) c6)) (j8 _)) (c8 (j5 (pv 1))) k7)))
     (c8 J6),?_⟩
   refine ⟨40,rfl,by decide,by decide,M7 (lo:=0) (n:=40) (fun j σ H1=>∃v:Option V,σ=[some (.str (q9 i)),v]/\H1=H/\(j:Int)<=i) ⟨none,rfl,rfl,i0⟩ ?_ ?_⟩
   · rintro j σ H1 hj ⟨v,rfl,rfl,ji⟩;refine ⟨_,rfl,_,rfl,_,rfl,cl4 (by decide) (by omega) (by omega),rfl,_,rfl,?_⟩
     by_cases e:i=(0:Int)+(j:Int)
     · subst e;rw[decide_eq_true (show V.str (q9 ((0:Int)+(j:Int)))=V.str (Str.ofString (toString ((0:Int)+(j:Int)))) from rfl)];exact A8 ⟨_,rfl,q⟩
     · rw[decide_eq_false (show ¬V.str (q9 i)=V.str (Str.ofString (toString ((0:Int)+(j:Int)))) from fun z=>e (dl2 i0 i1 (by omega) (by omega) (V.str.inj z)))];exact n9 ⟨_,rfl,rfl,by omega⟩
   · rintro σ H1 ⟨v,rfl,rfl,ji⟩;exact absurd ji (by omega)
def bi3:Sp:=fun vs H Q _=>∃(r:List Int),vs=[.str (y6 r)]/\r≠[]/\r.length<=40/\(∀x∈r,0<=x/\x < 40)/\∀l H',H l=none->e8 H H'->H' l=some (.lst (r.map V.int))->Q (.ref l) H'
theorem bo9:m9 ["text"] ["text"] (j6 ae8):=by rfl'
theorem at7:(["word"]:List Str).Nodup:=by decide+kernel
theorem bp0 {f:Addr}{fd:FuncData}(F:x6 K "read_round" "read_round" ae8 f fd)(zc:m8 P w K mg base "read_thing" 1 ["word"] bi2):n5 P w K mg base y7 2 f fd ["text"] bi3:=by
 refine F.ok bo9 (fun vs H Q E h=> ?_) (fun cdv A outer s H vs Q E hr h=> ?_)
 · obtain ⟨r,rfl,ne,lr,br,q⟩:=h;rfl
 · obtain ⟨r,rfl,ne,lr,br,q⟩:=h;have yq:m7 1 _:=hr.mono (by decide);refine ⟨_,c8 (j5 (G9 (N:=["word"]) (nl:=1) (fr:=[]) rfl .of (A0 (az1 (pv 0) (c5 j7 c6))) (fun _ _ _ _ _=>o7 (i:=0) at7 rfl (Or.inl rfl)) (fun _ _ _ _ _=>B7) (fun _ _ _ _ _=>(i7 zc yq (c5 (pv 0) c6))))),?_⟩;obtain ⟨es,el⟩:=an1 (sep:=Str.ofString " ") (parts:=r.map q9) (c0:=32) (rest:=[]) (by decide+kernel) (by simp) (fun t ht=>by obtain ⟨i,hi,rfl⟩:=ee3.mp ht;exact (ak6 (br i hi).1 (br i hi).2).2.2.1) (by simpa using ne) (by decide+kernel);have lt:=ah3 lr br;refine ⟨_,rfl,rfl,_,_,rfl,rfl,(by decide+kernel),(by rw[sizeLine_eq];omega),?_,?_,fun l hl=> ?_⟩
   · refine ee0 (et2 el) ?_;rw[eb8,sizeLine_eq];omega
   · show (Txt.split (Txt.join (Str.ofString " ") (r.map q9)) _).length<=_;rw[es,eb8,sizeLine_eq];omega
   · have es':Txt.split (y6 r) (Str.ofString " ")=r.map q9:=es;rw[es'];obtain ⟨H1,e1⟩:∃Hn,Hn=i8 H l (.lst ((r.map q9).map V.str)):=⟨_,rfl⟩;have s1:e8 H H1:=e1▸e8.upd_new hl
     have h1l:H1 l=some (.lst ((r.map q9).map V.str)):=by rw[e1,c9]
     rw[<-e1];refine ⟨l,rfl,⟨_,i5.of h1l⟩,C0 (K:=K) (a:=l) (xs:=(r.map q9).map V.str) (fun i ys σ H2=>∃v:Option V,σ=[v]/\H2=H1/\ys=(r.take i).map V.int) ⟨none,rfl,rfl,rfl⟩ (fun i ys σ H2 _ zz=>by obtain ⟨_,_,e,_⟩:=zz;rw[e];exact i5.of h1l) ?_ ?_⟩
     · rintro i x ys σ H2 hi ⟨v,rfl,rfl,rfl⟩;rw[eh6,ec1] at hi
       cases hB:r[i]? with
       |none=>rw[hB] at hi;cases hi
       |some z=>
        rw[hB] at hi;cases hi;have zb:=br z (ec4 hB);refine ⟨_,rfl,z,rfl,zb.1,zb.2,p9 (by simp only[eb8,ed3];omega),_,rfl,rfl,?_⟩;rw[n6 hB,ec3];rfl
     · rintro ys σ H2 ⟨v,rfl,rfl,rfl⟩ D hD;rw[eb8,eb8,ee1];exact q D _ (s1.free hD) (s1.trans (e8.upd_new hD)) c9
def ba0:Sp:=fun vs H Q _=>∃(p:List Int),vs=[.str (K1 p)]/\A1 p/\p.length<=40/\∀l as H',H l=none->e8 H H'->H' l=some (.lst (as.map V.ref))->C8 H' as (w5 p p.length)->Q (.ref l) H'
theorem cv4 {r:List Int}(ne:r≠[])(br:∀x∈r,0<=x/\x < 40):1<=(y6 r).cps.toList.length:=by
 show 1<=(Builtin.Str.glued _ _).cps.toList.length;rw[StrLaws.glued_eq_join,O3]
 cases r with
 |nil=>exact absurd rfl ne
 |cons i r=>
  have:=(ak6 (br i ec5).1 (br i ec5).2).2.1;exact ee0 this bm5
theorem bi4:m9 ["text"] ["text"] (j6 ab5):=by rfl'
theorem aq6:(["part"]:List Str).Nodup:=by decide+kernel
theorem bi5 {f:Addr}{fd:FuncData}(F:x6 K "read_rounds" "read_rounds" ab5 f fd)(zcz:m8 P w K mg base "read_round" 2 ["text"] bi3):n5 P w K mg base y7 3 f fd ["text"] ba0:=by
 refine F.ok bi4 (fun vs H Q E h=> ?_) (fun cdv A outer s H vs Q E hr h=> ?_)
 · obtain ⟨p,rfl,tp,lp,q⟩:=h;rfl
 · obtain ⟨p,rfl,tp,lp,q⟩:=h;have yqz:m7 2 _:=hr.mono (by decide)
   refine ⟨_,c7 (o6 (j9 y8 (pv 0) j7 (j8 _)) (c8 (j5 (A6 c6))) k7)
     (c8 (j5 (G9 (N:=["part"]) (nl:=1) (fr:=[]) rfl .of (A0 (az1 (al6 dq1 (pv 0) (W1 j4) (W1 (ci9 br0 j4))) (c5 j7 c6))) (fun _ _ _ _ _=>o7 (i:=0) aq6 rfl (Or.inl rfl)) (fun _ _ _ _ _=>B7) (fun _ _ _ _ _=>(i7 zcz yqz (c5 (pv 0) c6)))))),?_⟩
   have up:=C1 tp;obtain ⟨f1,f2⟩:=O7 tp lp up;obtain ⟨ok,ln⟩:=at6 f1 f2;obtain ⟨rs,hrs⟩:∃rs,rs=w5 p p.length:=⟨_,rfl⟩
   have et:K1 p=Str.ofString "("++Txt.join (Str.ofString ")(") (rs.map y6)++Str.ofString ")":=by rw[hrs];rfl
   rw[<-hrs] at f1 f2 ok ln q;refine ⟨_,rfl,rfl,_,rfl,?_⟩;rw[et]
   cases rs with
   |nil=>
    rw[decide_eq_true (show V.str (Str.ofString "("++Txt.join (Str.ofString ")(") (([]:List (List Int)).map y6)++Str.ofString ")")=V.str (Str.ofString "()") by decide+kernel)];refine A8 ⟨ee2 _,fun l hl=> ?_⟩;exact q l [] _ hl (e8.upd_new hl) c9 ⟨rfl,fun j b r h=>by simp at h⟩
   |cons r0 rr=>
    have l1:(Str.ofString "(").length=1:=by decide+kernel
    have l2:(Str.ofString ")").length=1:=by decide+kernel
    have l3:(Str.ofString "()").length=2:=by decide+kernel
    obtain ⟨mid,hmid⟩:∃mid,mid=Txt.join (Str.ofString ")(") ((r0::rr).map y6):=⟨_,rfl⟩
    have mpos:1<=mid.length:=by
      have e:mid.cps.toList=Mth.ac3 (Str.ofString ")(").cps.toList (((r0::rr).map y6).map (·.cps.toList)):=by
        rw[hmid];show (Builtin.Str.glued _ _).cps.toList=_;rw[StrLaws.glued_eq_join,O3]
      show 1<=mid.cps.toList.length;rw[e];exact ee0 (cv4 (f2 r0 ec5).1 (f2 r0 ec5).2.2) bm5
    rw[<-hmid] at ln ⊢
    have nn:¬V.str (Str.ofString "("++mid++Str.ofString ")")=V.str (Str.ofString "()"):=fun z=>by
      have:=congrArg Str.length (V.str.inj z);rw[Str.length_append,Str.length_append,l1,l2,l3] at this;omega
    rw[decide_eq_false nn];refine n9 ?_
    have lw:(Str.ofString "("++mid++Str.ofString ")").length<=4882:=by rw[Str.length_append,Str.length_append,l1,l2];omega
    obtain ⟨es,el⟩:=an1 (sep:=Str.ofString ")(") (parts:=(r0::rr).map y6) (c0:=41) (rest:=[40]) (by decide+kernel) (by decide) (fun t ht=>by obtain ⟨r,hr,rfl⟩:=ee3.mp ht;exact dd2 (.inr rfl) (f2 r hr).2.2) (by simp) (by decide+kernel);rw[<-hmid] at es el;refine ⟨_,rfl,_,rfl,_,rfl,_,rfl,_,rfl,(by rw[sizeLine_eq];omega),?_⟩;rw[show Txt.slice (Str.ofString "("++mid++Str.ofString ")") (some 1) (some (-1))=mid from cv3];refine ⟨rfl,mid,_,rfl,rfl,(by decide+kernel),(by rw[sizeLine_eq];omega),(by rw[el,eb8,sizeLine_eq];omega),(by rw[es,eb8,sizeLine_eq];omega),fun l hl=> ?_⟩;rw[es];obtain ⟨H1,e1⟩:∃Hn,Hn=i8 H l (.lst (((r0::rr).map y6).map V.str)):=⟨_,rfl⟩;have s1:e8 H H1:=e1▸e8.upd_new hl
    have h1l:H1 l=some (.lst (((r0::rr).map y6).map V.str)):=by rw[e1,c9]
    rw[<-e1];clear e1 et hmid es el nn;generalize r0::rr=rs at*;refine ⟨l,rfl,⟨_,i5.of h1l⟩,C0 (K:=K) (a:=l) (xs:=(rs.map y6).map V.str) (fun i ys σ H2=>∃(v:Option V) (as:List Addr),σ=[v]/\ys=as.map V.ref/\e8 H1 H2/\C8 H2 as (rs.take i)) ⟨none,[],rfl,rfl,e8.refl H1,⟨by rw[en4];rfl,fun j b r h=>by simp at h⟩⟩ (fun i ys σ H2 _ zz=>by obtain ⟨_,_,_,_,s,_⟩:=zz;exact i5.of (s _ _ h1l)) ?_ ?_⟩
    · rintro i x ys σ H2 hi ⟨v,as,rfl,rfl,s2,rows⟩;rw[eh6,ec1] at hi
      cases hB:rs[i]? with
      |none=>rw[hB] at hi;cases hi
      |some z=>
       rw[hB] at hi;cases hi;obtain ⟨z1,z2,z3⟩:=f2 z (ec4 hB);refine ⟨_,rfl,z,rfl,z1,z2,z3,fun b H3 hb s3 h3b=>⟨p9 (by rw[eb8,rows.1,ed3];omega),_,as++[b],rfl,by rw[ec3];rfl,s2.trans s3,?_⟩⟩;rw[n6 hB];exact W4 (O0 rows fun c _ o ho=>s3 _ _ ho) h3b
    · rintro ys σ H2 ⟨v,as,rfl,rfl,s2,rows⟩ D hD;rw[eb8,eb8,ee1] at rows;have s3:e8 H2 (i8 H2 D (.lst (as.map V.ref))):=e8.upd_new hD;exact q D as _ ((s1.trans s2).free hD) ((s1.trans s2).trans s3) c9 (O0 rows fun c _ o ho=>s3 _ _ ho)
def bw7:Sp:=fun vs H Q _=>∃(p:List Int),vs=[.str (K1 p)]/\A1 p/\p.length<=40/\∀l H',H l=none->e8 H H'->H' l=some (.lst (p.map V.int))->Q (.ref l) H'
theorem af6:m9 ["text","rounds","told"] ["text"] (j6 ai7):=by rfl'
theorem bw8 {f:Addr}{fd:FuncData}(F:x6 K "read_turn" "read_turn" ai7 f fd)(B:Bl mg)(zfy:m8 P w K mg base "read_rounds" 3 ["text"] ba0)(ziz:m8 P w K mg base "from_rounds" 3 ["rounds"] be0)(ztz:m8 P w K mg base "show_turn" 5 ["p"] ab1):n5 P w K mg base y7 6 f fd ["text"] bw7:=by
 refine F.ok af6 (fun vs H Q E h=> ?_) (fun cdv A outer s H vs Q E hr h=> ?_)
 · obtain ⟨p,rfl,tp,lp,q⟩:=h;rfl
 · obtain ⟨p,rfl,tp,lp,q⟩:=h;have ytz:m7 3 _:=hr.mono (by decide);have yty:m7 3 _:=hr.mono (by decide);have zly:m7 5 _:=hr.mono (by decide)
   refine ⟨_,c7 (o6 (K5 (G8 (aa6 B.isi (c5 (pv 0) (c5 (ay8 B.str) c6))))) (c8 J6) k7)
     (c7 (m6 (i:=1) af6.nd rfl (Or.inl rfl) (i7 zfy ytz (c5 (pv 0) c6)))
     (c7 (dj9 (c8 (m6 (i:=2) af6.nd rfl (Or.inl rfl) (i7 ziz yty (c5 (pv 1) c6)))))
     (c7 (o6 (j9 J3 (i7 ztz zly (c5 (pv 2) c6)) (pv 0) (j8 _)) (c8 J6) k7)
     (c8 (j5 (pv 2)))))),?_⟩
   have up:=C1 tp;obtain ⟨f1,f2⟩:=O7 tp lp up;have fl:=M4 tp up
   have lq:(w5 p p.length).flatten.length=p.length:=by rw[fl.length_eq,bs2]
   refine ⟨_,rfl,_,"str",_,true,rfl,.str _,Q6 K "str",true,rfl,?_⟩;refine n9 ⟨_,rfl,p,rfl,tp,lp,fun l as H1 hl s1 h1l rows=> ?_⟩;refine ⟨_,rfl,l,as,_,rfl,h1l,rows,fun r hr'=>(f2 r hr').1,(U4 fl).1,by omega,fun fo t H2 hfo s2 h2fo lt hts=> ?_⟩
   have etp:t=p:=by
     refine dp5 (n:=p.length) (by omega) rfl fun x x0 x1=> ?_
     have hxm:x∈(w5 p p.length).flatten:=fl.mem_iff.mpr (I0.mpr ⟨x0,x1⟩);obtain ⟨r,hr',hxr⟩:=ef1.mp hxm;obtain ⟨y,L,hy,pr,er,_⟩:=up.ring r hr';rw[er] at hxr;obtain ⟨jj,hjj,rfl⟩:=C3.mp hxr
     have hl':jj < r.length:=by rw[er,A2];exact hjj
     have h1:=hts r hr' jj hl'
     have rl:r.length=L:=by rw[er,A2]
     rw[rl,er,N1 hjj,N1 (ei2 _ pr.pos),aj7 pr.back] at h1;rw[bc8 (p:=t) ⟨x0,by omega⟩] at h1;exact Option.some.inj h1
   subst etp;refine ⟨_,rfl,fo,t,rfl,⟨h2fo,tp,lp⟩,fun H3 s3=> ?_⟩;refine ⟨_,rfl,rfl,_,rfl,?_⟩;exact R8 rfl ⟨_,rfl,q fo H3 (s1.free hfo) ((s1.trans s2).trans s3) (s3 _ _ h2fo)⟩
def N3:List (List Int)->Str
 |[]=>Str.ofString ""
 |r::rs=>Str.ofString "("++y6 r++Str.ofString ")"++N3 rs
theorem ax1:∀(rs:List (List Int)) (r:List Int),N3 (rs++[r])=N3 rs++Str.ofString "("++y6 r++Str.ofString ")"
 |[],r=>by
  refine O6 ?_;show (Str.ofString "("++y6 r++Str.ofString ")"++Str.ofString "").cps.toList=(Str.ofString ""++Str.ofString "("++y6 r++Str.ofString ")").cps.toList;simp only[C2,show (Str.ofString "").cps.toList=[] by decide+kernel,ef4,List.nil_append]
 |a::rs,r=>by
  refine O6 ?_;show (Str.ofString "("++y6 a++Str.ofString ")"++N3 (rs++[r])).cps.toList=(Str.ofString "("++y6 a++Str.ofString ")"++N3 rs++Str.ofString "("++y6 r++Str.ofString ")").cps.toList;rw[ax1 rs r];simp only[C2,ee7]
theorem bn0:∀(r:List Int) (rs:List (List Int)),N3 (r::rs)=Str.ofString "("++Txt.join (Str.ofString ")(") ((r::rs).map y6)++Str.ofString ")"
 |r,[]=>by
  refine O6 ?_;show (Str.ofString "("++y6 r++Str.ofString ")"++Str.ofString "").cps.toList=(Str.ofString "("++y6 r++Str.ofString ")").cps.toList;simp only[C2,show (Str.ofString "").cps.toList=[] by decide+kernel,ef4]
 |r,u::rs=>by
  have ih:=congrArg (fun z:Str=>z.cps.toList) (bn0 u rs)
  have e1:(Txt.join (Str.ofString ")(") ((u::rs).map y6)).cps.toList=Mth.ac3 (Str.ofString ")(").cps.toList (((u::rs).map y6).map (·.cps.toList)):=by
    show (Builtin.Str.glued _ _).cps.toList=_;rw[StrLaws.glued_eq_join,O3]
  have e2:(Txt.join (Str.ofString ")(") ((r::u::rs).map y6)).cps.toList=(y6 r).cps.toList++(Str.ofString ")(").cps.toList++Mth.ac3 (Str.ofString ")(").cps.toList (((u::rs).map y6).map (·.cps.toList)):=by
    show (Builtin.Str.glued _ _).cps.toList=_;rw[StrLaws.glued_eq_join,O3];rfl
  refine O6 ?_;show (Str.ofString "("++y6 r++Str.ofString ")"++N3 (u::rs)).cps.toList=_;simp only[C2] at ih ⊢;rw[ih,e1,e2,show (Str.ofString ")(").cps.toList=(Str.ofString ")").cps.toList++(Str.ofString "(").cps.toList by decide+kernel];simp only[ee7]
theorem be3:∀{rs:List (List Int)},(∀r∈rs,r≠[]/\r.length<=40/\∀x∈r,0<=x/\x < 40)->(N3 rs).length<=rs.length*122
 |[],_=>by show (Str.ofString "").length<=_;rw[show (Str.ofString "").length=0 by decide+kernel];omega
 |r::rs,h=>by
  have ih:=be3 fun y hy=>h y (ec9 _ hy)
  have hr:=h r ec5;have l0:=ah3 hr.2.1 hr.2.2;show (Str.ofString "("++y6 r++Str.ofString ")"++N3 rs).length<=_;rw[Str.length_append,Str.length_append,Str.length_append,show (Str.ofString "(").length=1 by decide+kernel,show (Str.ofString ")").length=1 by decide+kernel,ef6,ej7];omega
theorem S8:m9 ["p","found","one"] ["p"] (j6 ab9):=by rfl'
theorem ao4:(["thing"]:List Str).Nodup:=by decide+kernel
theorem bi6 {f:Addr}{fd:FuncData}(F:x6 K "_law_written" "_law_written" ab9 f fd)(B:Bl mg)(zvx:m8 P w K mg base "_law_rounds" 1 ["p"] J0):n5 P w K mg base y7 2 f fd ["p"] ab1:=by
 refine F.ok S8 (fun vs H Q E h=> ?_) (fun cdv A outer s H vs Q E hr h=> ?_)
 · obtain ⟨a,p,rfl,tp,q⟩:=h;rfl
 · obtain ⟨a,p,rfl,tp,q⟩:=h;have zq:m7 1 _:=hr.mono (by decide)
   refine ⟨_,c7 (m6 (i:=1) S8.nd rfl (Or.inl rfl) j7)
     (c7 (A7 PassesOwn.never rfl (A0 (i7 zvx zq (c5 (pv 0) c6))) (o7 (i:=2) S8.nd rfl (Or.inl rfl))
       (c8 (m6 (i:=1) S8.nd rfl (Or.inl rfl) (q0 J4 (q0 J4 (q0 J4 (pv 1) j7) (ak1 j7 (c5 (G9 (N:=["thing"]) (nl:=1) (fr:=[]) rfl .of (A0 (pv 2)) (fun _ _ _ _ _=>o7 (i:=0) ao4 rfl (Or.inl rfl)) (fun _ _ _ _ _=>B7) (fun _ _ _ _ _=>(K4 B.str (c5 (pv 0) c6)))) c6))) j7))))
     (c8 (j5 (p8 o0 (A6 (c5 (pv 1) (c5 j7 c6))) (aj8 B.int (c5 (G6 y8 (pv 1) j7 (j8 _)) c6)) (fun _ _=>rfl))))),?_⟩
   refine ⟨_,rfl,a,p,rfl,tp,fun l as rs H1 hl s1 h1l rows up _ _ _=> ?_⟩;obtain ⟨f1,f2⟩:=O7 tp.2.1 tp.2.2 up
   have l1:(Str.ofString "(").length=1:=by decide+kernel
   have l2:(Str.ofString ")").length=1:=by decide+kernel
   refine ⟨l,rfl,⟨_,i5.of h1l⟩,E7 (K:=K) (a:=l) (xs:=as.map V.ref) (fun i σ H2=>∃v:Option V,σ=[some (.ref a),some (.str (N3 (rs.take i))),v]/\e8 H1 H2) ⟨none,rfl,e8.refl H1⟩ (fun i σ H2 _ zz=>by obtain ⟨_,_,s⟩:=zz;exact i5.of (s _ _ h1l)) ?_ ?_⟩
   · rintro i x σ H2 hi ⟨v,rfl,s2⟩;rw[ec1] at hi
     cases hB:as[i]? with
     |none=>rw[hB] at hi;cases hi
     |some b=>
      rw[hB] at hi;cases hi
      have hil:i < rs.length:=by rw[<-rows.1];exact (ec0.mp hB).1
      have hr':=eb9 hil;have hb:=s2 _ _ (rows.2 i b _ hB hr');obtain ⟨r1,r2,r3⟩:=f2 rs[i] (ee5 hil);obtain ⟨r,er⟩:∃r,r=rs[i]:=⟨_,rfl⟩;rw[<-er] at hb r1 r2 r3 hr'
      have tl:=be3 (rs:=rs.take i) fun y hy=>f2 y (el5 hy)
      rw[ed3] at tl;have rl:=ah3 r2 r3;refine ⟨_,rfl,_,_,rfl,rfl,(by rw[l1,sizeLine_eq];omega),rfl,?_⟩;refine ⟨_,rfl,b,rfl,⟨_,i5.of hb⟩,C0 (K:=K) (a:=b) (xs:=r.map V.int) (fun i ys σ H3=>∃v:Option V,σ=[v]/\H3=H2/\ys=((r.take i).map q9).map V.str) ⟨none,rfl,rfl,rfl⟩ (fun i ys σ H3 _ zz=>by obtain ⟨_,_,e,_⟩:=zz;rw[e];exact i5.of hb) ?_ ?_⟩
      · rintro i x ys σ H3 hi ⟨v,rfl,rfl,rfl⟩;obtain ⟨z,hz,rfl⟩:=y9 hi;have zb:=r3 z (ec4 hz);refine ⟨_,rfl,z,rfl,cl4 (by decide) zb.1 zb.2,p9 (by simp only[eb8,ed3];omega),_,rfl,rfl,?_⟩;rw[n6 hz,ec3,ec3];rfl
      · rintro ys σ H3 ⟨v,rfl,rfl,rfl⟩ D hD;rw[eb8,ee1];refine ⟨Str.ofString " ",D,r.map q9,rfl,rfl,i5.of c9,ab0 (B:=2) (fun y hy=> ?_) ?_,?_⟩
        · obtain ⟨i,hi,rfl⟩:=ee3.mp hy;exact (ak6 (r3 i hi).1 (r3 i hi).2).1
        · have sl:(Str.ofString " ").length=1:=by decide+kernel
          rw[eb8,sl];omega
        · have rl':(Txt.join (Str.ofString " ") (r.map q9)).length<=120:=rl;refine ⟨_,_,rfl,rfl,(by rw[Str.length_append,l1,sizeLine_eq];omega),_,_,rfl,rfl,(by rw[Str.length_append,Str.length_append,l1,l2,sizeLine_eq];omega),?_⟩;refine ⟨some (.ref b),?_,s2.trans (e8.upd_new hD)⟩;rw[n6 hr',ax1];rfl
   · rintro σ H2 ⟨v,rfl,s2⟩;rw[eb8,rows.1,ee1]
     have et:K1 p=Str.ofString "("++Txt.join (Str.ofString ")(") (rs.map y6)++Str.ofString ")":=by unfold K1;rw[<-up.eq]
     refine ⟨_,rfl,(show 2<=sizeLine by decide),fun w hw=> ?_⟩;refine ⟨_,rfl,rfl,_,rfl,w,_,_,.str (K1 p),rfl,rfl,i5.of c9,?_,q _ ((s1.trans s2).trans (e8.upd_new hw))⟩
     cases rs with
     |nil=>
      rw[et];show Y2 [V.str (Str.ofString ""),V.str (Str.ofString "()")] (if decide (V.str (Str.ofString "")=V.str (Str.ofString ""))=true then 1 else 0)=_;rw[decide_eq_true rfl,if_pos rfl];exact o9 (j:=1) (by decide+kernel)
     |cons r0 rr=>
      rw[et,<-bn0]
      have nn:¬V.str (N3 (r0::rr))=V.str (Str.ofString ""):=fun z=>by
        have:=congrArg Str.length (V.str.inj z)
        have e:(N3 (r0::rr)).length=1+(y6 r0).length+1+(N3 rr).length:=by
          show (Str.ofString "("++y6 r0++Str.ofString ")"++N3 rr).length=_;rw[Str.length_append,Str.length_append,Str.length_append,l1,l2]
        rw[e,show (Str.ofString "").length=0 by decide+kernel] at this;omega
      rw[decide_eq_false nn,if_neg (by decide)];exact o9 (j:=0) rfl
end
end My
namespace My
open PySem L2 Mth
section
variable {P:Program} {w:World} {K:PySem.W.Frag} {mg:Str->Option Value} {base:Heap}
def be4:Sp:=fun vs H Q _=>∃(a:Addr) (p:List Int) (k:Int),vs=[.ref a,.int k]/\r9 H a p/\∀(l:Addr) (t:List Int) (H':Hp),H l=none->e8 H H'->N6 p k t->H' l=some (.lst (t.map V.int))->Q (.ref l) H'
theorem X6:m9 ["p","k","found","one","at"] ["p","k"] (j6 aj2):=by rfl'
theorem bw9 {f:Addr}{fd:FuncData}(F:x6 K "_law_power" "_law_power" aj2 f fd)(B:Bl mg)(zvx:m8 P w K mg base "_law_rounds" 1 ["p"] J0):n5 P w K mg base y7 2 f fd ["p","k"] be4:=by
 refine F.ok X6 (fun vs H Q E h=> ?_) (fun cdv A outer s H vs Q E hr h=> ?_)
 · obtain ⟨a,p,k,rfl,⟨ha,tp,lp⟩,q⟩:=h;rfl
 · obtain ⟨a,p,k,rfl,⟨ha,tp,lp⟩,q⟩:=h;have zq:m7 1 _:=hr.mono (by decide)
   refine ⟨_,c7 (m6 (i:=2) X6.nd rfl (Or.inl rfl) (bl8 B.list (c5 (pv 0) c6)))
     (c7 (A7 PassesOwn.never rfl (A0 (i7 zvx zq (c5 (pv 0) c6))) (o7 (i:=3) X6.nd rfl (Or.inl rfl))
       (c8 (A7 PassesOwn.never rfl (K2 (by rfl) B.range (c5 (x9 B.len (c5 (pv 3) c6)) c6)) (o7 (i:=4) X6.nd rfl (Or.inl rfl))
         (c8 (ad3 (p8 o0 (pv 3) (q0 K6 (q0 Q4 (pv 4) (pv 1)) (x9 B.len (c5 (pv 3) c6))) (fun _ _=>rfl)) (ad2 (pv 2) (p8 o0 (pv 3) (pv 4) (fun _ _=>rfl)) V3))))))
     (c8 (j5 (pv 2)))),?_⟩
   refine ⟨_,rfl,a,_,rfl,.inl (i5.of ha),fun l hl=> ?_⟩;have s2:e8 H (i8 H l (.lst (p.map V.int))):=e8.upd_new hl;have h2l:(i8 H l (.lst (p.map V.int))) l=some (.lst (p.map V.int)):=c9;generalize (i8 H l (.lst (p.map V.int)))=H2 at s2 h2l ⊢;refine ⟨_,rfl,a,p,rfl,⟨s2 a _ ha,tp,lp⟩,fun g as rs H3 hg s23 h3g rows up fa nda nga=> ?_⟩;have h3l:=s23 l _ h2l
   have ngl:g≠l:=fun z=>by rw[z,h2l] at hg;cases hg
   have nf:rs.flatten.Nodup:=(M4 tp up).nodup_iff.mpr (N0 _)
   refine ⟨g,rfl,⟨_,i5.of h3g⟩,E7 (K:=K) (a:=g) (xs:=as.map V.ref) (fun i σ H4=>∃(ts:List Int) (v3 v4:Option V),σ=[some (.ref a),some (.int k),some (.ref l),v3,v4]/\H4 l=some (.lst (ts.map V.int))/\ts.length=p.length/\(∀x∈(rs.take i).flatten,∃L,J9 p x L/\A4 ts x=some (it p (k%(L:Int)).toNat x))/\o5 l H3 H4)
     ⟨p,none,none,rfl,h3l,rfl,(fun x hx=>by simp at hx),o5.refl l H3⟩ (fun i σ H4 _ zz=>by obtain ⟨_,_,_,_,_,_,_,kb⟩:=zz;exact i5.of (kb g _ h3g ngl)) ?_ ?_⟩
   · rintro i y σ H4 hi ⟨ts,v3,v4,rfl,h4l,hl4,hx4,kb⟩;rw[ec1] at hi;obtain ⟨e,hai,rfl⟩:=ei7.mp hi;have hil:i < as.length:=(ec0.mp hai).1;have hri:rs[i]? =some (rs[i]'(by rw[<-rows.1];exact hil)):=eb9 _;generalize hR:rs[i]'(by rw[<-rows.1];exact hil)=R at hri;have h3e:=rows.2 i e R hai hri;have hRm:R∈rs:=ec4 hri;obtain ⟨x,L,hx,pr,eR,_⟩:=up.ring R hRm
     have nle:l≠e:=fun z=>by have:=fa e (ec4 hai);rw[<-z,h2l] at this;cases this
     have rl:R.length=L:=by rw[eR,A2]
     have L0:=pr.pos
     have ndR:R.Nodup:=by rw[eR];exact Z8 tp hx fun j j0 j1=>pr.least j j0 j1
     have inR:∀y∈R,Mth.In p y:=fun y hy=>by rw[eR] at hy;exact V4 tp hx y hy
     have lL:R.length<=40:=by
       have:=O2 tp hx (m:=L) fun j j0 j1=>pr.least j j0 j1
       omega
     refine ⟨_,rfl,e,_,rfl,.inl (i5.of (kb e _ h3e nle.symm)),(R.length:Int),by rw[eb8],by omega,by omega,?_⟩;rw[show ((R.length:Int)).toNat=R.length by omega]
     refine M7 (lo:=0) (n:=R.length) (fun j σ H5=>∃(us:List Int) (v4:Option V),σ=[some (.ref a),some (.int k),some (.ref l),some (.ref e),v4]/\H5 l=some (.lst (us.map V.int))/\us.length=p.length/\(∀j',j' < j->A4 us (R.getD j' 0)=some (R.getD (((j':Int)+k)%(R.length:Int)).toNat 0))/\(∀y,0<=y->y∉R->A4 us y=A4 ts y)/\o5 l H3 H5)
       ⟨ts,v4,rfl,h4l,hl4,(fun j' h=>by omega),(fun y _ _=>rfl),kb⟩ ?_ ?_
     · rintro j σ H5 hj ⟨us,v4,rfl,h5l,ul,old,out,kb5⟩
       have e0:(0:Int)+(j:Int)=(j:Int):=by omega
       rw[e0];have h5e:=kb5 e _ h3e nle.symm;have b0:=eg6 ((j:Int)+k) (show (R.length:Int)≠0 by omega);have b1:=ei5 ((j:Int)+k) (show (0:Int) < (R.length:Int) by omega);have xb:=inR (R.getD j 0) (by rw[B0 hj];exact ee5 _);refine ⟨_,rfl,_,rfl,_,rfl,_,_,rfl,rfl,_,rfl,e,_,rfl,.inl (i5.of h5e),_,_,rfl,rfl,?_,?_⟩
       · show (0:Int) < ((R.map V.int).length:Int);rw[eb8];omega
       rw[eb8];refine ⟨e,_,_,_,rfl,rfl,i5.of h5e,M3 b0 b1,_,rfl,_,rfl,_,rfl,e,_,_,_,rfl,rfl,i5.of h5e,M3 (show (0:Int)<=(j:Int) by omega) (by omega),?_⟩;rw[ed7];refine ⟨l,_,_,(R.getD j 0).toNat,rfl,rfl,h5l,?_,?_⟩
       · unfold U1;rw[eb8,ul,if_pos xb.1,if_pos xb.2]
       rw[<-ep4];refine ⟨_,_,rfl,c9,by rw[el1];exact ul,fun j' hj'=> ?_,fun y y0 hy=> ?_,kb5.upd_a⟩
       · by_cases c:j'=j
         · subst c;exact Z0 (by have:=xb.2;have:=xb.1;omega)
         · rw[U5 (inR _ (by rw[B0 (show j' < R.length by omega)];exact ee5 _)).1 xb.1 (S4 ndR (by omega) hj c)];exact old j' (by omega)
       · rw[U5 y0 xb.1 fun z=>hy (by rw[z,B0 hj];exact ee5 _)];exact out y y0 hy
     · rintro σ H5 ⟨us,v4,rfl,h5l,ul,old,out,kb5⟩;refine ⟨us,_,_,rfl,h5l,ul,fun y hy=> ?_,kb5⟩;rw[n6 hri,eg3,ei8] at hy
       by_cases hyR:y∈R
       · rw[eR] at hyR;obtain ⟨j,hjL,rfl⟩:=C3.mp hyR;refine ⟨L,pr.shift tp hx j,?_⟩;have:=old j (by omega)
         have rl':(R.length:Int)=(L:Int):=by rw[rl]
         rw[rl'] at this;have b0:=eg6 ((j:Int)+k) (show (L:Int)≠0 by omega);have b1:=ei5 ((j:Int)+k) (show (0:Int) < (L:Int) by omega);rw[eR,N1 hjL,N1 (by omega),ck5 pr] at this;exact this
       · rcases ed8.mp hy with g'|g'
         · obtain ⟨r',hr',hyr'⟩:=ef1.mp g';obtain ⟨x',L',hx',_,er',_⟩:=up.ring r' (el5 hr');rw[out y (by rw[er'] at hyr';exact (V4 tp hx' y hyr').1) hyR];exact hx4 y g'
         · exact absurd g' hyR
   · rintro σ H4 ⟨ts,v3,v4,rfl,h4l,hl4,hx4,kb⟩;rw[eb8,rows.1,ee1] at hx4;refine ⟨_,rfl,q l ts H4 hl (fun b o hb=>kb _ _ (s23 _ _ (s2 _ _ hb)) (i4 hb hl)) ⟨hl4,fun x hx=>hx4 x ((M4 tp up).mem_iff.mpr (I0.mpr hx))⟩ h4l⟩
end
end My
namespace My
open PySem L2 Mth
section
variable {P:Program} {w:World} {K:PySem.W.Frag} {mg:Str->Option Value} {base:Heap} {zvy zyx zzx zy zyz zxx zzz zx zw zwz zv:Addr}
theorem ch1 {a b:Addr}{n:Nat}{g:TG}{tb:TS}{D:T9}{σ:St}{H:Hp}(Pv:Nat->St->Hp->Prop)(h0:Pv 0 σ H)
   (hl:∀i σ H,i<=n->Pv i σ H->∃xs zs,H a=some (.lst xs)/\H b=some (.lst zs)/\xs.length=n/\zs.length=n)
   (hs:∀i x y σ H t xs zs,i < n->H a=some (.lst xs)->H b=some (.lst zs)->xs[i]? =some x->zs[i]? =some y->Pv i σ H->H t=none->g (.ref t) σ (i8 H t (.tup [x,y])) fun σ2 H2=>tb {D with nx:=Pv (i+1),ct:=Pv (i+1),bk:=D.nx} σ2 H2) (hd:∀σ H,Pv n σ H->D.nx σ H):
   ∃W:Nat->Nat->St->Hp->Prop,(∃m,W 0 m σ H)/\∀i m σ H,W i m σ H->
    ((Itz a b).stop i H/\D.nx σ H)\/((Itz a b).go i H/\∃N:St->Hp->Prop,(∀σ' H',N σ' H'->∃m',m' < m/\W (i+1) m' σ' H')/\∀x H',(Itz a b).yld i H x H'->g x σ H' fun σ2 H2=>tb {D with nx:=N,ct:=N,bk:=D.nx} σ2 H2):=by
 refine ⟨fun i m σ H=>m=n - i/\i<=n/\Pv i σ H,⟨n,by simp,ee2 _,h0⟩,?_⟩;rintro i m σ H ⟨rfl,hi,p⟩;obtain ⟨xs,zs,h1,h2,l1,l2⟩:=hl i σ H hi p
 by_cases hlt:i < n
 · refine .inr ⟨⟨xs,zs,xs[i],zs[i],h1,h2,by simp [l1,hlt],by simp [l2,hlt]⟩,Pv (i+1),fun σ' H' p'=>⟨n - (i+1),by omega,rfl,hlt,p'⟩,fun x H' y=> ?_⟩;obtain ⟨x',y',t,y1,y2,y3,e1,e2⟩:=y;subst e1 e2;exact hs i x' y' σ _ t xs zs hlt h1 h2 (y1 xs h1) (y2 zs h2) p y3
 · have e:i=n:=by omega
   subst e;exact .inl ⟨⟨xs,zs,h1,h2,.inl (by omega)⟩,hd σ H p⟩
structure dr2 (fs rs ms fs':List Int):Prop where
 len:fs'.length=fs.length
 at_:∀j,j < rs.length->A4 fs' (rs.getD j 0)=some (ms.getD j 0)
 out:∀x,0<=x->x∉rs->A4 fs' x=A4 fs x
def bx0:Sp:=fun vs H Q _=>∃(t r m:Addr) (fs rs ms:List Int),vs=[.ref t,.ref r,.ref m]/\H t=some (.lst (fs.map V.int))/\H r=some (.lst (rs.map V.int))/\H m=some (.lst (ms.map V.int))/\r≠t/\m≠t/\rs.length=ms.length/\(∀x∈rs,0<=x/\x < (fs.length:Int))/\rs.Nodup/\
 ∀(fs':List Int) (H':Hp),H' t=some (.lst (fs'.map V.int))->dr2 fs rs ms fs'->o5 t H H'->Q .non H'
theorem af7:m9 ["target","ring","image","thing","place"] ["target","ring","image"] (j6 ai2):=by rfl'
theorem bx1 {f:Addr}{fd:FuncData}(F:x6 K "send_over" "send_over" ai2 f fd)(B:Bl mg):n5 P w K mg base y7 1 f fd ["target","ring","image"] bx0:=by
 refine F.ok af7 (fun vs H Q E h=> ?_) (fun cdv A outer s H vs Q E hr h=> ?_)
 · obtain ⟨t,r,m,fs,rs,ms,rfl,ht,hr,hm,nrt,nmt,ln,bd,nd,q⟩:=h;rfl
 · obtain ⟨t,r,m,fs,rs,ms,rfl,ht,hr,hm,nrt,nmt,ln,bd,nd,q⟩:=h
   refine ⟨_,c8 (A7 PassesOwn.never rfl (cs5 B.zip (c5 (pv 1) (c5 (pv 2) c6))) (ad1 rfl (E6 (o7 (i:=3) af7.nd rfl (Or.inl rfl)) (E6 (o7 (i:=4) af7.nd rfl (Or.inl rfl)) Y4)))
       (c8 (ad3 (pv 4) (ad2 (pv 0) (pv 3) V3)))),?_⟩
   refine ⟨_,rfl,_,rfl,r,m,_,_,rfl,hr,hm,ch1 (n:=rs.length) (fun i σ H2=>∃(fs':List Int) (v3 v4:Option V),σ=[some (.ref t),some (.ref r),some (.ref m),v3,v4]/\H2 t=some (.lst (fs'.map V.int))/\dr2 fs (rs.take i) (ms.take i) fs'/\o5 t H H2)
     ⟨fs,none,none,rfl,ht,⟨rfl,(fun j hj=>by rw[en4] at hj;cases hj),fun x _ _=>rfl⟩,o5.refl _ _⟩
     (fun i σ H2 _ ⟨_,_,_,_,_,_,kb⟩=>⟨_,_,kb _ _ hr nrt,kb _ _ hm nmt,eb8 ..,by rw[eb8,ln]⟩) ?_ ?_⟩
   · rintro i x y σ H2 tp xs zs hi hx hz ex ey ⟨fs',v3,v4,rfl,h2,st,kb⟩ htp;have hxr:=kb _ _ hr nrt;have hzm:=kb _ _ hm nmt;rw[hxr] at hx;rw[hzm] at hz;cases hx;cases hz;obtain ⟨x,hx,rfl⟩:=y9 ex;obtain ⟨y,hy,rfl⟩:=y9 ey;have s3:e8 H2 (i8 H2 tp (.tup [.int x,.int y])):=e8.upd_new htp;have h3t:(i8 H2 tp (.tup [.int x,.int y])) tp=some (.tup [.int x,.int y]):=c9;generalize (i8 H2 tp (.tup [.int x,.int y]))=H3 at s3 h3t ⊢;have xb:=bd x (ec4 hx);refine ⟨tp,_,rfl,M6.of h3t,rfl,_,_,rfl,_,_,rfl,rfl,_,rfl,_,rfl,_,rfl,t,_,_,x.toNat,rfl,rfl,s3 _ _ h2,?_,?_⟩
     · unfold U1;rw[eb8,st.len,if_pos xb.1,if_pos xb.2]
     rw[<-ep4];refine ⟨_,_,_,rfl,c9,⟨by rw[el1];exact st.len,fun j hj=> ?_,fun u u0 hu=> ?_⟩,fun b o hb nb=>by rw[i6 nb];exact s3 _ _ (kb b o hb nb)⟩
     · have ndt:=nd.sublist (List.take_sublist (i+1) rs);rw[n6 hx] at hj ndt ⊢;rw[n6 hy];have il:i < ms.length:=(ec0.mp hy).1
       have lt:(rs.take i).length=i:=by rw[ed3];omega
       have ltm:(ms.take i).length=i:=by rw[ed3];omega
       rw[ec2,lt,ep8] at hj
       by_cases c:j < i
       · have g1:(rs.take i++[x]).getD j 0=(rs.take i).getD j 0:=by rw[ed0,ef3 (by omega),<-ed0]
         have g2:(ms.take i++[y]).getD j 0=(ms.take i).getD j 0:=by rw[ed0,ef3 (by omega),<-ed0]
         rw[g1,g2]
         have mj:(rs.take i).getD j 0∈rs.take i:=by rw[B0 (by omega)];exact ee5 _
         rw[U5 (bd _ (el5 mj)).1 xb.1 ((eg5.mp ndt).2.2 _ mj x ec5)];exact st.at_ j (by omega)
       · have e:j=i:=by omega
         subst e
         have g1:(rs.take j++[x]).getD j 0=x:=by rw[ed0,ed6 (by omega),lt,Nat.sub_self];rfl
         have g2:(ms.take j++[y]).getD j 0=y:=by rw[ed0,ed6 (by omega),ltm,Nat.sub_self];rfl
         rw[g1,g2];exact Z0 (by have:=st.len;omega)
     · rw[n6 hx] at hu;rw[U5 u0 xb.1 fun e=>hu (ed4 _ (by rw[e];exact ec5))]
       exact st.out u u0 fun z=>hu (eg0 _ z)
   · rintro σ H2 ⟨fs',v3,v4,rfl,h2,st,kb⟩;rw[ee1,ln,ee1] at st;exact q fs' H2 h2 st kb
structure dl3 (p q t:List Int):Prop where
 len:t.length=p.length
 at_:∀(L k:Nat) (r s:List Int),(B2 (w5 p p.length) L)[k]? =some r->(B2 (w5 q q.length) L)[k]? =some s->∀j,j < r.length->A4 t (r.getD j 0)=some (s.getD j 0)
def ak7:Sp:=fun vs H Q _=>∃(a b:Addr) (p q:List Int),vs=[.ref a,.ref b]/\r9 H a p/\r9 H b q/\p.length=q.length/\
 (¬(C9 p).Perm (C9 q)->∀H',e8 H H'->Q .non H')/\((C9 p).Perm (C9 q)->∀(o:Addr) (t:List Int) (H':Hp),H o=none->e8 H H'->H' o=some (.lst (t.map V.int))->dl3 p q t->Q (.ref o) H')
theorem cv5 {rs qs:List (List Int)}(h:(rs.map fun r=>(r.length:Int)).Perm (qs.map fun r=>(r.length:Int)))(L:Nat):(B2 rs L).length=(B2 qs L).length:=by
 have:=h.countP_eq (fun x=>decide (x=(L:Int)));rw[eu4,eu4] at this;unfold B2;rw[<-em8,<-em8]
 have e:∀l:List (List Int),(l.countP ((fun x=>decide (x=(L:Int)))∘fun r=>(r.length:Int)))=l.countP fun r=>decide (r.length=L):=fun l=>List.countP_congr fun r _=>by simp only[Function.comp,decide_eq_true_eq];omega
 rw[e,e] at this;exact this
theorem bx2:∀{rs:List (List Int)} {r s:List Int} {x:Int},rs.flatten.Nodup->r∈rs->s∈rs->x∈r->x∈s->r=s
 |u::rs,r,s,x,nd,hr,hs,xr,xs=>by
  rw[ee8,eg5] at nd
  rcases ec8.mp hr with e1|h1
  · rcases ec8.mp hs with e2|h2
    · rw[e1,e2]
    · exact absurd rfl (nd.2.2 x (e1▸xr) x (ef1.mpr ⟨s,h2,xs⟩))
  · rcases ec8.mp hs with e2|h2
    · exact absurd rfl (nd.2.2 x (e2▸xs) x (ef1.mpr ⟨r,h1,xr⟩))
    · exact bx2 nd.2.1 h1 h2 xr xs
theorem ch2:∀{rs:List (List Int)},rs.flatten.Nodup->(∀r∈rs,r≠[])->rs.Nodup
 |[],_,_=>ek7
 |u::rs,nd,ne=>by
  rw[ee8,eg5] at nd;refine eg7.mpr ⟨fun z=> ?_,ch2 nd.2.1 fun r hr=>ne r (ec9 _ hr)⟩;obtain ⟨x,hx⟩:=List.exists_mem_of_ne_nil u (ne u ec5);exact absurd rfl (nd.2.2 x hx x (ef1.mpr ⟨u,z,hx⟩))
theorem cv6 {α:Type}{as:List α}(nd:as.Nodup){i j:Nat}{x:α}(h:as[i]? =some x)(g:as[j]? =some x):i=j:=by
 obtain ⟨l1,e1⟩:=ec0.mp h;obtain ⟨l2,e2⟩:=ec0.mp g
 rcases es4 i j with z|z|z
 · exact absurd (e1.trans e2.symm) (ef8.mp (ee6.mp nd) i j l1 l2 z)
 · exact z
 · exact absurd (e2.trans e1.symm) (ef8.mp (ee6.mp nd) j i l2 l1 z)
theorem cv7 {as:List Addr}{j:Nat}{x:V}(h:(as.map V.ref)[j]? =some x):∃a,as[j]? =some a/\x=V.ref a:=by
 rw[ec1] at h
 cases e:as[j]? with
 |none=>rw[e] at h;cases h
 |some a=>rw[e] at h;exact ⟨a,rfl,(Option.some.inj h).symm⟩
theorem cv8 {H:Hp}{as:List Addr}{rs:List (List Int)}{j:Nat}{a:Addr}(rows:C8 H as rs)(h:as[j]? =some a):∃r,rs[j]? =some r/\H a=some (.lst (r.map V.int)):=by
 have il:j < rs.length:=by rw[<-rows.1];exact (ec0.mp h).1
 exact ⟨_,eb9 il,rows.2 j a _ h (eb9 il)⟩
theorem ak8 {rs:List (List Int)}{L:Nat}{r:List Int}(h:r∈B2 rs L):r∈rs/\r.length=L:=by
 unfold B2 at h;obtain ⟨a,b⟩:=ej9.mp h;exact ⟨a,of_decide_eq_true b⟩
theorem G7:m9 ["p","q","images","by_length","told","length","ring","image"] ["p","q"] (j6 X3):=by rfl'
theorem aq1 {f:Addr}{fd:FuncData}(F:x6 K "named_anew" "named_anew" X3 f fd)(B:Bl mg)(zyy:m8 P w K mg base "must_be_turn" 3 ["thing"] af3)(zsy:m8 P w K mg base "must_fit" 1 ["p","q"] (ao3 K))(zt:m8 P w K mg base "kind_of" 5 ["p"] R4)(zty:m8 P w K mg base "sort_by_length" 1 ["rings"] av5)(zoy:m8 P w K mg base "walk_rings" 2 ["p"] J0)(zgy:m8 P w K mg base "send_over" 1 ["target","ring","image"] bx0):n5 P w K mg base y7 6 f fd ["p","q"] ak7:=by
 refine F.ok G7 (fun vs H Q E h=> ?_) (fun cdv A outer s H vs Q E hr h=> ?_)
 · obtain ⟨a,b,p,q,rfl,⟨ha,tp,lp⟩,⟨hb,tq,lq⟩,hl,qn,qy⟩:=h;rfl
 · obtain ⟨a,b,p,q,rfl,⟨ha,tp,lp⟩,⟨hb,tq,lq⟩,hl,qn,qy⟩:=h;have zuy:m7 3 _:=hr.mono (by decide);have zjx:m7 1 _:=hr.mono (by decide);have zkz:m7 5 _:=hr.mono (by decide);have zd:m7 1 _:=hr.mono (by decide);have yx:m7 2 _:=hr.mono (by decide);have yoz:m7 1 _:=hr.mono (by decide);have hu:=O1 hr
   refine ⟨_,c7 (x8 (i7 zyy zuy (c5 (pv 0) c6)))
     (c7 (x8 (i7 zyy zuy (c5 (pv 1) c6)))
     (c7 (x8 (i7 zsy zjx (c5 (pv 0) (c5 (pv 1) c6))))
     (c7 (o6 (j9 (bc5 0 hu) (i7 zt zkz (c5 (pv 0) c6)) (i7 zt zkz (c5 (pv 1) c6)) (j8 _)) (c8 (j5 O4)) k7)
     (c7 (m6 (i:=2) G7.nd rfl (Or.inl rfl) (i7 zty zd (c5 (i7 zoy yx (c5 (pv 1) c6)) c6)))
     (c7 (m6 (i:=3) G7.nd rfl (Or.inl rfl) (i7 zty zd (c5 (i7 zoy yx (c5 (pv 0) c6)) c6)))
     (c7 (m6 (i:=4) G7.nd rfl (Or.inl rfl) (bl8 B.list (c5 (pv 0) c6)))
     (c7 (A7 PassesOwn.never rfl (di8 (pv 3)) (o7 (i:=5) G7.nd rfl (Or.inl rfl))
       (c8 (A7 PassesOwn.never rfl (cs5 B.zip (c5 (au6 hu (pv 3) (pv 5) (fun _ _=>rfl)) (c5 (au6 hu (pv 2) (pv 5) (fun _ _=>rfl)) c6))) (ad1 rfl (E6 (o7 (i:=6) G7.nd rfl (Or.inl rfl)) (E6 (o7 (i:=7) G7.nd rfl (Or.inl rfl)) Y4)))
         (c8 (x8 (i7 zgy yoz (c5 (pv 4) (c5 (pv 6) (c5 (pv 7) c6)))))))))
     (c8 (j5 (pv 4)))))))))),?_⟩
   refine ⟨_,rfl,a,p,rfl,⟨ha,tp,lp⟩,fun H1 s1=> ?_⟩;refine ⟨_,rfl,b,q,rfl,⟨s1 _ _ hb,tq,lq⟩,fun H2 s2=> ?_⟩;have s02:=s1.trans s2;refine ⟨_,rfl,_,rfl,a,b,_,_,rfl,i5.of (s02 _ _ ha),i5.of (s02 _ _ hb),by simpa using hl,?_⟩;refine ⟨_,rfl,a,p,rfl,⟨s02 _ _ ha,tp,lp⟩,fun l1 ms1 H3 hl1 s3 pm1 fal1 bd1 ln1 h3=> ?_⟩;refine ⟨_,rfl,b,q,rfl,⟨s3 _ _ (s02 _ _ hb),tq,lq⟩,fun l2 ms2 H4 hl2 s4 pm2 fal2 bd2 ln2 h4=> ?_⟩;have s04:=s02.trans (s3.trans s4);refine ⟨l1,l2,_,_,_,rfl,rfl,i5.of (s4 _ _ h3),i5.of h4,ad9 K H4 0 ms1 ms2,_,rfl,?_⟩
   show if (!decide (ms1=ms2))=true then _ else _
   by_cases e:¬ms1=ms2
   · rw[decide_eq_false e];exact A8 (qn (fun pm=>e (ax0 ((pm1.trans pm).trans pm2.symm) fal1 fal2)) H4 s04)
   replace e:ms1=ms2:=Classical.not_not.mp e
   have kpm:(C9 p).Perm (C9 q):=pm1.symm.trans (e▸pm2);refine R8 e ?_;refine ⟨_,rfl,b,q,rfl,⟨s04 _ _ hb,tq,lq⟩,fun R2 as2 rs2 H5 hR2 s5 h5 rows2 up2 fa2 nda2 nla2=> ?_⟩;refine ⟨R2,as2,rs2,rfl,h5,rows2,by have:=V8 up2;have:=ak2 tq up2;omega,fun d2 es2 H6 hd2 s6 h6 bl2 le2 fr2=> ?_⟩;have s06:=s04.trans (s5.trans s6);refine ⟨_,rfl,a,p,rfl,⟨s06 _ _ ha,tp,lp⟩,fun R1 as1 rs1 H7 hR1 s7 h7 rows1 up1 fa1 nda1 nla1=> ?_⟩;refine ⟨R1,as1,rs1,rfl,h7,rows1,by have:=V8 up1;have:=ak2 tp up1;omega,fun d1 es1 H8 hd1 s8 h8 bl1 le1 fr1=> ?_⟩;have s08:=s06.trans (s7.trans s8);refine ⟨_,rfl,a,_,rfl,.inl (i5.of (s08 _ _ ha)),fun o ho=> ?_⟩;have s9:e8 H8 (i8 H8 o (.lst (p.map V.int))):=e8.upd_new ho;have h9:(i8 H8 o (.lst (p.map V.int))) o=some (.lst (p.map V.int)):=c9;generalize (i8 H8 o (.lst (p.map V.int)))=H9 at s9 h9 ⊢;have ho0:H o=none:=s08.free ho;have s09:=s08.trans s9;have hd10:H d1=none:=(s06.trans s7).free hd1;have er1:rs1=w5 p p.length:=up1.eq;have er2:rs2=w5 q q.length:=up2.eq;have g8d2:H8 d2=some (.dK (B5 es2)):=s8 _ _ (s7 _ _ h6);have nd1o:d1≠o:=i4 h8 ho;have nd2o:d2≠o:=i4 g8d2 ho
   have nd12:d2≠d1:=fun z=>by rw[z] at h6;rw[s7 _ _ h6] at hd1;cases hd1
   refine ⟨_,rfl,d1,B5 es1,rfl,s9 _ _ h8,fun ob=> ?_⟩
   have kp:∀c,c≠d1->(i8 H9 d1 (.frz ob (.dK (B5 es1)))) c=H9 c:=fun c hc=>i6 hc
   have h10d:(i8 H9 d1 (.frz ob (.dK (B5 es1)))) d1=some (.frz ob (.dK (B5 es1))):=c9;have s010:e8 H (i8 H9 d1 (.frz ob (.dK (B5 es1)))):=s09.upd_r hd10;generalize (i8 H9 d1 (.frz ob (.dK (B5 es1))))=H10 at kp h10d s010 ⊢
   have h10o:H10 o=some (.lst (p.map V.int)):=by rw[kp _ nd1o.symm];exact h9
   have h10d2:H10 d2=some (.dK (B5 es2)):=by rw[kp _ nd12];exact s9 _ _ g8d2
   have lkv:(B5 es1).length=es1.length:=by unfold B5;rw[eb8]
   refine db0 (fun i σ Hx=>∃(fs:List Int) (v5 v6 v7:Option V),σ=[some (.ref a),some (.ref b),some (.ref d2),some (.ref d1),some (.ref o),v5,v6,v7]/\Hx o=some (.lst (fs.map V.int))/\fs.length=p.length/\(∀e∈es1.take i,∀(k:Nat) (r s:List Int),(B2 rs1 e.1)[k]? =some r->(B2 rs2 e.1)[k]? =some s->∀j,j < r.length->A4 fs (r.getD j 0)=some (s.getD j 0))/\o5 o H10 Hx)
     ⟨p,none,none,none,rfl,h10o,rfl,(fun e he=>by rw[en4] at he;cases he),o5.refl _ _⟩ (fun i σ Hx _ ⟨_,_,_,_,_,_,_,_,kb⟩=>kb _ _ h10d nd1o) ?_ ?_
   · rintro i k v σ Hx hi ⟨fs,v5,v6,v7,rfl,hx,fl,nm,kb⟩;unfold B5 at hi;rw[ec1] at hi
     cases hE:es1[i]? with
     |none=>rw[hE] at hi;cases hi
     |some e=>
     rw[hE] at hi;cases hi;have he:=ec4 hE;obtain ⟨cs1,hcs1,rcs1⟩:=bl1.row e he;obtain ⟨r0,hr0,lr0⟩:=bl1.key e.1 (ee3.mpr ⟨e,he,rfl⟩);have cnt:(B2 rs1 e.1).length=(B2 rs2 e.1).length:=cv5 (by rw[er1,er2];exact kpm) e.1;have m0:r0∈B2 rs1 e.1:=ej9.mpr ⟨hr0,decide_eq_true lr0⟩;obtain ⟨s0,hs0⟩:=List.exists_mem_of_length_pos (show 0 < (B2 rs2 e.1).length by rw[<-cnt];exact List.length_pos_of_mem m0);obtain ⟨e2,he2,ee⟩:=ee3.mp (bl2.all s0 (ak8 hs0).1);rw[(ak8 hs0).2] at ee;obtain ⟨cs2,hcs2,rcs2⟩:=bl2.row e2 he2;rw[ee] at rcs2;have g8c2:H8 e2.2=some (.lst (cs2.map V.ref)):=s8 _ _ (s7 _ _ hcs2)
     have n2d:e2.2≠d1:=fun z=>by have:=s7 _ _ hcs2;rw[z,hd1] at this;cases this
     have hx1:Hx e.2=some (.lst (cs1.map V.ref)):=kb _ _ (by rw[kp _ (bl1.nd e he)];exact s9 _ _ hcs1) (i4 hcs1 ho);have hx2:Hx e2.2=some (.lst (cs2.map V.ref)):=kb _ _ (by rw[kp _ n2d];exact s9 _ _ g8c2) (i4 g8c2 ho)
     have l1:(cs1.map V.ref).length=(B2 rs1 e.1).length:=by rw[eb8];exact rcs1.1
     have l2:(cs2.map V.ref).length=(B2 rs1 e.1).length:=by rw[eb8,cnt];exact rcs2.1
     have n1o:e.2≠o:=i4 hcs1 ho;have n2o:e2.2≠o:=i4 g8c2 ho;have n1d:e.2≠d1:=bl1.nd e he;have nf1:rs1.flatten.Nodup:=(M4 tp up1).nodup_iff.mpr (N0 _)
     have ne1:∀r∈rs1,r≠[]:=fun r hr z=>by
       obtain ⟨y,L,hy,pr,er,_⟩:=up1.ring r hr;have:=A2 p y L;rw[<-er,z] at this;have:=pr.pos;simp at*;omega
     have ndf:(B2 rs1 e.1).Nodup:=List.Nodup.sublist List.filter_sublist (ch2 nf1 ne1)
     refine ⟨_,rfl,_,rfl,d1,.ref e.2,rfl,.inl ⟨B5 es1,Sum.inl (e.1:Int),.inr ⟨ob,kb _ _ h10d nd1o⟩,rfl,(bw1 bl1.nk he).symm⟩,_,rfl,_,rfl,d2,.ref e2.2,rfl,.inl ⟨B5 es2,Sum.inl (e.1:Int),.inl (kb _ _ h10d2 nd2o),rfl,by rw[<-ee];exact (bw1 bl2.nk he2).symm⟩,e.2,e2.2,_,_,rfl,hx1,hx2,ch1 (n:=(B2 rs1 e.1).length) (fun k σ Hy=>∃(fs':List Int) (v6 v7:Option V),σ=[some (.ref a),some (.ref b),some (.ref d2),some (.ref d1),some (.ref o),some (.int (e.1:Int)),v6,v7]/\Hy o=some (.lst (fs'.map V.int))/\fs'.length=p.length/\(∀e∈es1.take i,∀(k:Nat) (r s:List Int),(B2 rs1 e.1)[k]? =some r->(B2 rs2 e.1)[k]? =some s->∀j,j < r.length->A4 fs' (r.getD j 0)=some (s.getD j 0))/\(∀k',k' < k->∀(r s:List Int),(B2 rs1 e.1)[k']? =some r->(B2 rs2 e.1)[k']? =some s->∀j,j < r.length->A4 fs' (r.getD j 0)=some (s.getD j 0))/\o5 o H10 Hy)
       ⟨fs,v6,v7,rfl,hx,fl,nm,(fun k' h=>by omega),kb⟩
       (fun k σ Hy _ ⟨_,_,_,_,_,_,_,_,kb'⟩=>⟨_,_,kb' _ _ (by rw[kp _ n1d];exact s9 _ _ hcs1) n1o,kb' _ _ (by rw[kp _ n2d];exact s9 _ _ g8c2) n2o,l1,l2⟩) ?_ ?_⟩
     · rintro k x y σ Hy tpa xs zs hk hxs hzs ex ey ⟨fs',w6,w7,rfl,hy,fl',nm',cur,kb'⟩ htp;rw[kb' _ _ (by rw[kp _ n1d];exact s9 _ _ hcs1) n1o] at hxs;rw[kb' _ _ (by rw[kp _ n2d];exact s9 _ _ g8c2) n2o] at hzs;cases hxs;cases hzs;obtain ⟨r1a,hr1a,rfl⟩:=cv7 ex;obtain ⟨r2a,hr2a,rfl⟩:=cv7 ey;obtain ⟨r,hr,h7r⟩:=cv8 rcs1 hr1a;obtain ⟨s,hs,h5s⟩:=cv8 rcs2 hr2a;have g8r:=s8 _ _ h7r;have g8s:=s8 _ _ (s7 _ _ (s6 _ _ h5s))
       have n1x:r1a≠d1:=fun z=>by rw[z,hd1] at h7r;cases h7r
       have n2x:r2a≠d1:=fun z=>by have:=s7 _ _ (s6 _ _ h5s);rw[z,hd1] at this;cases this
       have m1o:r1a≠o:=i4 g8r ho;have m2o:r2a≠o:=i4 g8s ho;have hyr:=kb' _ _ (show H10 r1a=_ by rw[kp _ n1x];exact s9 _ _ g8r) m1o;have hys:=kb' _ _ (show H10 r2a=_ by rw[kp _ n2x];exact s9 _ _ g8s) m2o;have s3:e8 Hy (i8 Hy tpa (.tup [.ref r1a,.ref r2a])):=e8.upd_new htp;have h3t:(i8 Hy tpa (.tup [.ref r1a,.ref r2a])) tpa=some (.tup [.ref r1a,.ref r2a]):=c9;generalize (i8 Hy tpa (.tup [.ref r1a,.ref r2a]))=Hw at s3 h3t ⊢;have fr:=ak8 (ec4 hr);have fs2:=ak8 (ec4 hs);refine ⟨tpa,_,rfl,M6.of h3t,rfl,_,_,rfl,_,_,rfl,rfl,_,rfl,_,rfl,_,rfl,o,r1a,r2a,fs',r,s,rfl,s3 _ _ hy,s3 _ _ hyr,s3 _ _ hys,m1o,m2o,by rw[fr.2,fs2.2],fun x hx=> ?_,nf1.sublist (er0 fr.1),fun fs'' Hz hz st kz=> ?_⟩
       · have:=I0.mp ((M4 tp up1).mem_iff.mp (ef1.mpr ⟨r,fr.1,hx⟩));omega
       have keep:∀r',r'∈rs1->r'≠r->∀j,j < r'.length->A4 fs'' (r'.getD j 0)=A4 fs' (r'.getD j 0):=fun r' hr' ne j hj=>by
         have mj:r'.getD j 0∈r':=by rw[B0 hj];exact ee5 _
         have:=I0.mp ((M4 tp up1).mem_iff.mp (ef1.mpr ⟨r',hr',mj⟩))
         exact st.out _ this.1 fun z=>ne (bx2 nf1 hr' fr.1 mj z)
       refine ⟨fs'',_,_,rfl,hz,by rw[st.len];exact fl',fun e' he' k' r' s' hr' hs' j hj=> ?_,fun k' hk' r' s' hr' hs' j hj=> ?_,fun c u hc nc=>kz _ _ (s3 _ _ (kb' c u hc nc)) nc⟩
       · have f':=ak8 (ec4 hr');rw[keep r' f'.1 (fun z=> ?_) j hj]
         · exact nm' e' he' k' r' s' hr' hs' j hj
         · have ek:e'.1=e.1:=by rw[<-f'.2,<-fr.2,z]
           obtain ⟨i',hi'⟩:=eq5 he'
           have il':i' < i:=by
             have:=(ec0.mp hi').1;rw[ed3] at this;omega
           rw[eg1 il'] at hi';have:=cv6 bl1.nk (show (es1.map (·.1))[i']? =some e.1 by rw[ec1,hi'];exact congrArg some ek) (show (es1.map (·.1))[i]? =some e.1 by rw[ec1,hE];rfl);omega
       · by_cases z:k'=k
         · subst z;rw[hr] at hr';rw[hs] at hs';cases hr';cases hs';exact st.at_ j hj
         · rw[keep r' (ak8 (ec4 hr')).1 (fun w=>z (cv6 ndf (w▸hr') hr)) j hj];exact cur k' (by omega) r' s' hr' hs' j hj
     · rintro σ Hy ⟨fs',w6,w7,rfl,hy,fl',nm',cur,kb'⟩;refine ⟨fs',_,_,_,rfl,hy,fl',fun e' he' k' r' s' hr' hs' j hj=> ?_,kb'⟩;rw[n6 hE] at he'
       rcases ed8.mp he' with z|z
       · exact nm' e' z k' r' s' hr' hs' j hj
       · cases eh0.mp z;exact cur k' (ec0.mp hr').1 r' s' hr' hs' j hj
   · rintro σ Hx ⟨fs,v5,v6,v7,rfl,hx,fl,nm,kb⟩;rw[lkv,ee1] at nm;refine ⟨_,rfl,qy kpm o fs Hx ho0 (fun c u hc=>kb _ _ (s010 _ _ hc) (i4 hc ho0)) hx ⟨fl,fun L k r s hr hs j hj=> ?_⟩⟩;rw[<-er1] at hr;rw[<-er2] at hs;have mr:=ec4 hr;obtain ⟨m1,m2⟩:=ej9.mp (show r∈rs1.filter _ from mr);have Lr:r.length=L:=of_decide_eq_true m2;obtain ⟨e,he,ee⟩:=ee3.mp (bl1.all r m1);exact nm e he k r s (by rw[ee,Lr];exact hr) (by rw[ee,Lr];exact hs) j hj
end
end My
namespace My
open PySem L2 Mth
section
variable {P:Program} {w:World} {K:PySem.W.Frag} {mg:Str->Option Value} {base:Heap} {zvy zyx zzx zy zyz zxx zzz zx zw zwz zv:Addr}
def be5 (q:Addr):Sp:=fun vs H _ E=>∃(a b:Addr) (xs ys:List V),vs=[.ref a,.ref b]/\H a=some (.lst xs)/\H b=some (.lst ys)/\xs.length≠ys.length/\E (.ref q) none H
theorem cc3:m9 ["p","q"] ["p","q"] (j6 X2):=dg2
theorem bx3 {f:Addr}{fd:FuncData}(F:x6 K "must_fit" "must_fit" X2 f fd)(B:Bl mg)(ytx:Err K mg "NoFit" zzx):n5 P w K mg base (W2 P w) 1 f fd ["p","q"] (be5 zzx):=by
 refine F.okx cc3 (fun vs H Q E h=> ?_) (fun cdv A outer s H vs Q E hr h=> ?_)
 · obtain ⟨a,b,xs,ys,rfl,ha,hb,ne,q⟩:=h;rfl
 · obtain ⟨a,b,xs,ys,rfl,ha,hb,ne,q⟩:=h;refine ⟨_,c8 (o6 (j9 J3 (x9 B.len (c5 (pv 0) c6)) (x9 B.len (c5 (pv 1) c6)) (j8 _)) (c8 (bu4 bm3 rfl ytx j7)) k7),?_⟩;refine ⟨_,rfl,a,xs,rfl,.inl (i5.of ha),_,rfl,b,ys,rfl,.inl (i5.of hb),rfl,_,rfl,?_⟩;rw[decide_eq_false fun z=>ne (by have:=V.int.inj z;omega)];exact A8 q
def X7 (qf:Addr):Sp:=fun vs H _ E=>∃(a b:Addr) (p q:List Int),vs=[.ref a,.ref b]/\r9 H a p/\r9 H b q/\p.length≠q.length/\∀H',e8 H H'->E (.ref qf) none H'
theorem bp1:m9 ["p","q"] ["p","q"] (j6 R0):=by rfl'
theorem bi7 {f:Addr}{fd:FuncData}(F:x6 K "put_behind" "put_behind" R0 f fd)(zyy:m8 P w K mg base "must_be_turn" 3 ["thing"] af3)(zsy:Q8 P w K mg base "must_fit" 1 ["p","q"] (fun vs H Q E=>(ao3 K) vs H Q E\/(be5 zzx) vs H Q E)):n5 P w K mg base (W2 P w) 4 f fd ["p","q"] (X7 zzx):=by
 refine F.okx bp1 (fun vs H Q E h=> ?_) (fun cdv A outer s H vs Q E hr h=> ?_)
 · obtain ⟨a,b,p,q,rfl,⟨ha,tp,lp⟩,⟨hb,tq,lq⟩,ne,k⟩:=h;rfl
 · obtain ⟨a,b,p,q,rfl,⟨ha,tp,lp⟩,⟨hb,tq,lq⟩,ne,k⟩:=h;have zuy:m7 3 _:=hr.mono (by decide);have zjx:m7 1 _:=hr.mono (by decide)
   refine ⟨_,c7 (x8 (i7 zyy zuy (c5 (pv 0) c6)))
     (c7 (x8 (i7 zyy zuy (c5 (pv 1) c6)))
     (c7 (x8 (S5 zsy zjx (N2 fun _ _ _ h=>h) (c5 (pv 0) (c5 (pv 1) c6))))
     ag5)),?_⟩
   refine ⟨_,rfl,a,p,rfl,⟨ha,tp,lp⟩,fun H1 s1=> ?_⟩;refine ⟨_,rfl,b,q,rfl,⟨s1 _ _ hb,tq,lq⟩,fun H2 s2=> ?_⟩;have s02:=s1.trans s2;exact ⟨_,rfl,_,rfl,.inr ⟨a,b,_,_,rfl,s02 _ _ ha,s02 _ _ hb,by simpa using ne,k H2 s02⟩⟩
def bx4:Sp:=fun vs H Q _=>∃(a b:Addr) (p q:List Int),vs=[.ref a,.ref b]/\r9 H a p/\r9 H b q/\p.length=q.length/\∀(H':Hp),e8 H H'->Q (.bl (decide (B4 p q=B4 q p))) H'
theorem be6:m9 ["p","q"] ["p","q"] (j6 ah0):=by rfl'
theorem be7 {f:Addr}{fd:FuncData}(F:x6 K "go_past" "go_past" ah0 f fd)(zrx:m8 P w K mg base "put_behind" 4 ["p","q"] af4):n5 P w K mg base y7 5 f fd ["p","q"] bx4:=by
 refine F.ok be6 (fun vs H Q E h=> ?_) (fun cdv A outer s H vs Q E hr h=> ?_)
 · obtain ⟨a,b,p,q,rfl,⟨ha,ta,la⟩,⟨hb,tb,lb⟩,hl,k⟩:=h;rfl
 · obtain ⟨a,b,p,q,rfl,⟨ha,ta,la⟩,⟨hb,tb,lb⟩,hl,k⟩:=h;have zm:m7 4 _:=hr.mono (by decide);have hu:=O1 hr;refine ⟨_,c8 (j5 (G6 (aj6 0 hu) (i7 zrx zm (c5 (pv 0) (c5 (pv 1) c6))) (i7 zrx zm (c5 (pv 1) (c5 (pv 0) c6))) (j8 _))),?_⟩;refine ⟨_,rfl,_,rfl,a,b,p,q,rfl,⟨ha,ta,la⟩,⟨hb,tb,lb⟩,hl,fun l H1 hl1 s1 h1l=> ?_⟩;refine ⟨_,rfl,_,rfl,b,a,q,p,rfl,⟨s1 b _ hb,tb,lb⟩,⟨s1 a _ ha,ta,la⟩,hl.symm,fun m H2 hm s12 h2m=> ?_⟩;exact ⟨l,m,_,_,decide (B4 p q=B4 q p),rfl,rfl,i5.of (s12 l _ h1l),i5.of h2m,ad9 _ _ _ _ _,k H2 (s1.trans s12)⟩
theorem cc4 {f:Addr}{fd:FuncData}(F:x6 K "go_past" "go_past" ah0 f fd)(zrx:Q8 P w K mg base "put_behind" 4 ["p","q"] (fun vs H Q E=>af4 vs H Q E\/(X7 zzx) vs H Q E)):n5 P w K mg base (W2 P w) 5 f fd ["p","q"] (X7 zzx):=by
 refine F.okx be6 (fun vs H Q E h=> ?_) (fun cdv A outer s H vs Q E hr h=> ?_)
 · obtain ⟨a,b,p,q,rfl,tp,tq,ne,k⟩:=h;rfl
 · obtain ⟨a,b,p,q,rfl,tp,tq,ne,k⟩:=h;have zm:m7 4 _:=hr.mono (by decide);have hu:=O1 hr;refine ⟨_,c8 (j5 (G6 (aj6 0 hu) (S5 zrx zm (N2 fun _ _ _ h=>h) (c5 (pv 0) (c5 (pv 1) c6))) (S5 zrx zm (N2 fun _ _ _ h=>h) (c5 (pv 1) (c5 (pv 0) c6))) (j8 _))),?_⟩;exact ⟨_,rfl,_,rfl,.inr ⟨a,b,p,q,rfl,tp,tq,ne,k⟩⟩
theorem bi8 {f:Addr}{fd:FuncData}(F:x6 K "named_anew" "named_anew" X3 f fd)(zyy:m8 P w K mg base "must_be_turn" 3 ["thing"] af3)(zsy:Q8 P w K mg base "must_fit" 1 ["p","q"] (fun vs H Q E=>(ao3 K) vs H Q E\/(be5 zzx) vs H Q E)):n5 P w K mg base (W2 P w) 6 f fd ["p","q"] (X7 zzx):=by
 refine F.okx G7 (fun vs H Q E h=> ?_) (fun cdv A outer s H vs Q E hr h=> ?_)
 · obtain ⟨a,b,p,q,rfl,⟨ha,tp,lp⟩,⟨hb,tq,lq⟩,ne,k⟩:=h;rfl
 · obtain ⟨a,b,p,q,rfl,⟨ha,tp,lp⟩,⟨hb,tq,lq⟩,ne,k⟩:=h;have zuy:m7 3 _:=hr.mono (by decide);have zjx:m7 1 _:=hr.mono (by decide)
   refine ⟨_,c7 (x8 (i7 zyy zuy (c5 (pv 0) c6)))
     (c7 (x8 (i7 zyy zuy (c5 (pv 1) c6)))
     (c7 (x8 (S5 zsy zjx (N2 fun _ _ _ h=>h) (c5 (pv 0) (c5 (pv 1) c6))))
     ag5)),?_⟩
   refine ⟨_,rfl,a,p,rfl,⟨ha,tp,lp⟩,fun H1 s1=> ?_⟩;refine ⟨_,rfl,b,q,rfl,⟨s1 _ _ hb,tq,lq⟩,fun H2 s2=> ?_⟩;have s02:=s1.trans s2;exact ⟨_,rfl,_,rfl,.inr ⟨a,b,_,_,rfl,s02 _ _ ha,s02 _ _ hb,by simpa using ne,k H2 s02⟩⟩
def ac9 (qm:Addr):Sp:=fun vs H _ E=>∃(a:Addr) (p:List Int) (k:Nat),vs=[.ref a,.int (k:Int)]/\r9 H a p/\16 < p.length/\1<=k/\k<=1000000000000000000000000000000/\∀H',e8 H H'->E (.ref qm) none H'
theorem ba1 {f:Addr}{fd:FuncData}(F:x6 K "soonest_root" "soonest_root" S6 f fd)(B:Bl mg)(zvz:∃t,mg "MOST_THINGS_soonest"=some (.int 16 t))(zpx:m8 P w K mg base "root_told" 5 ["p","m"] be1)(yxx:Err K mg "TooMany" zzz):n5 P w K mg base (W2 P w) 7 f fd ["p","m"] (ac9 zzz):=by
 refine F.okx P8 (fun vs H Q E h=> ?_) (fun cdv A outer s H vs Q E hr h=> ?_)
 · obtain ⟨a,p,n,rfl,tp,l17,n1,n2,k⟩:=h;rfl
 · obtain ⟨a,p,n,rfl,tp,l17,n1,n2,k⟩:=h;obtain ⟨_,zoz⟩:=zvz;have zdy:m7 5 _:=hr.mono (by decide)
   refine ⟨_,c7 (m6 (i:=2) P8.nd rfl (Or.inl rfl) (i7 zpx zdy (c5 (pv 0) (c5 (pv 1) c6))))
     (c7 (o6 (j9 au1 (x9 B.len (c5 (pv 0) c6)) (B3 (v:= .int 16) (by rfl) zoz ⟨_,rfl⟩) (j8 _)) (c8 (bu4 bm3 rfl yxx j7)) k7)
     ag5),?_⟩
   refine ⟨_,rfl,_,rfl,a,p,n,rfl,tp,n1,n2,fun t o r H1 s1 _ _ _ _ _ _ _=> ?_,fun t l c d H1 s1 _ _ _ _ _ _=> ?_⟩
   all_goals
     refine ⟨_,rfl,a,_,rfl,.inl (i5.of (s1 _ _ tp.1)),_,_,rfl,rfl,_,rfl,?_⟩;rw[eb8,decide_eq_true (show (16:Int) < (p.length:Int) by omega)];exact A8 (k _ s1)
end
end My
namespace L2
open PySem PySem.Spec PyProof.Rows
section
variable {X:Cx}
def sgn (c:Nat):Str:=⟨#[c]⟩
def Itx (x:Str):It:=⟨fun i _=>i < x.cps.size,fun i H v H'=>H'=H/\∃c,x.cps[i]? =some c/\v= .str (sgn c),fun i _=>x.cps.size<=i⟩
theorem bx5 {P:Program}{w:World}{K:PySem.W.Frag}{tg:Expr}(it:Addr)(x:Str)(t:Tok)(n:String)(hn:n="str_ascii_iterator"\/n="str_iterator"):al4 P w K tg (Itx x) [it] it (fun i h=>h.IsStrIter it n x t i) where
 mem:=by simp
 obj:=fun i h st b hb=>by
   have e:b=it:=by simpa using hb
   subst e;obtain ⟨o,e1,_,e3⟩:=st;exact ⟨o,e1,fun v z=>by rw[e3] at z;cases z⟩
 keep:=fun i h h' st k=>by
   obtain ⟨o,e1,e2⟩:=st;exact ⟨o,k it (by simp) o e1,e2⟩
 item:=by
   intro X hP hw hK hc i pins s σ H E I hf st hg;subst hP hw hK;have hi:i < x.cps.size:=hg;obtain ⟨f0,f1,f2,f3,f4,f5⟩:=hf it (by simp)
   have ec:x.cps[i]? =some x.cps[i]:=by simp [hi]
   generalize x.cps[i]=c at ec
   have fin:∀h',h'.IsStrIter it n x t (i+1)->Heap.SameBut it s.heap h'->∃u,some (Value.str ⟨#[c]⟩ s.toks)=some u/\wpAny (model X.prog X.w) X.A (letOwnedTupleGo tg (.ref it) u) (fun _ s2=>∃v H',i9 X pins σ H' s2/\w4 v u/\(Itx x).yld i H v H'/\s2.heap.IsStrIter it n x t (i+1)/\∀b∈[it],H' b=none) E {s with heap:=h',toks:=s.toks+1}:=fun h' st' sb=>by
     have I1:i9 X pins σ H {s with heap:=h',toks:=s.toks+1}:=I.turned (t':=s.toks+1) (fun b o hb e=>(sb.2 b hb).trans e) f0 f1 f3 f4 f5;obtain ⟨o,e1,e2,e3⟩:=id st';refine ⟨_,rfl,bb2 (s:={s with heap:=h',toks:=s.toks+1}) e1 e2 e3 (by rcases hn with rfl|rfl<;>decide) ⟨.str (sgn c),H,I1,⟨_,rfl⟩,⟨rfl,c,ec,rfl⟩,st',fun b hb=>(hf b hb).1⟩⟩
   rcases hn with rfl|rfl
   · exact wpAny_pyNext_ascii_item st ec fin
   · exact wpAny_pyNext_wide_item st ec fin
 done:=by
   intro X hP hw hK hc i pins s σ H E I hf st hg;subst hP hw hK;have hi:x.cps.size<=i:=hg;obtain ⟨f0,f1,f2,f3,f4,f5⟩:=hf it (by simp)
   have en:x.cps[i]? =none:=by simp [hi]
   have fin:∀h',Heap.ExtBut it s.heap h'->none=(none:Option Value)/\i9 X pins σ H {s with heap:=h'}:=fun h' eb=>⟨rfl,I.turned (t':=s.toks) (fun b o hb e=>eb b o hb e) f0 f1 f3 f4 f5⟩
   rcases hn with rfl|rfl
   · exact wpAny_pyNext_ascii_end (I.ok.hd hc) st en fin
   · exact wpAny_pyNext_wide_end (I.ok.hd hc) st en fin
 self:=fun _ _ _ _ _ st h=>by
   rcases hn with rfl|rfl
   · exact wpAny_pyIter_striter_ascii st h
   · exact wpAny_pyIter_striter_wide st h
def ea0 (ts:TE):TI:=fun σ H R=>ts σ H fun v H1=>∃x:Str,v= .str x/\R (Itx x) H1
theorem dr3 {tg l:Expr}{tl:TE}(hl:PE X l tl):PI X tg l (ea0 tl):=by
 intro pins s σ H R I h
 refine r6 (hl pins s σ H _ I h) fun v s1 ⟨y,H1,I1,r1,x,ex,q⟩=> ?_
 subst ex;obtain ⟨t,rfl⟩:=r1
 have fp:∀ob:Obj,∀b∈[s1.heap.objs.size],al3 X pins H1 b:=fun ob b hb=>by
   have e:b=s1.heap.objs.size:=by simpa using hb
   subst e;exact I1.fpOk (ec6 _) (I1.hok.fresh (ec6 _))
 have kp:∀ob:Obj,i9 X pins σ H1 {s1 with heap:=s1.heap.push ob}:=fun ob=>I1.kept (t':=s1.toks) fun b o e=>Heap.get?_push_of_some _ e
 cases ha:x.cps.all (· < 128) with
 |true=>exact wpAny_pyIter_ascii ha ⟨_,[_],_,_,_,rfl,kp _,bx5 _ x t _ (.inl rfl),⟨_,Heap.get?_push_size _ rfl,rfl,rfl⟩,fp {cls:= .none},q⟩
 |false=>exact wpAny_pyIter_wide ha ⟨_,[_],_,_,_,rfl,kp _,bx5 _ x t _ (.inr rfl),⟨_,Heap.get?_push_size _ rfl,rfl,rfl⟩,fp {cls:= .none},q⟩
theorem dd3 {x:Str}{g:TG}{tc:TT}{te:TE}{σ0:St}{H:Hp}{Q:VK}(Pv:Nat->List V->St->Hp->Prop)(h0:Pv 0 [] σ0 H)
   (hs:∀i c ys σ H,x.cps[i]? =some c->Pv i ys σ H->g (.str (sgn c)) σ H fun σ2 H2=>tc σ2 H2 fun b H4=>if b=true then te σ2 H4 fun y H5=>ys.length < sizeLine/\Pv (i+1) (ys++[y]) σ2 H5 else Pv (i+1) ys σ2 H4)
   (hd:∀ys σ H,Pv x.cps.size ys σ H->∀D,H D=none->Q (.ref D) (i8 H D (.lst ys))):bc3 (Itx x) g tc te Q σ0 H:=by
 refine ⟨fun i m ys σ H=>m=x.cps.size - i/\i<=x.cps.size/\Pv i ys σ H,⟨x.cps.size,by simp,ee2 _,h0⟩,?_⟩;rintro i m ys σ H ⟨rfl,hi,p⟩
 by_cases hlt:i < x.cps.size
 · refine .inr ⟨hlt,Pv (i+1),fun ys' σ' H' p'=>⟨x.cps.size - (i+1),by omega,rfl,hlt,p'⟩,fun v H' y=> ?_⟩;obtain ⟨e,c,y1,y2⟩:=y;subst e y2;exact hs i c ys σ _ y1 p
 · have e:i=x.cps.size:=by omega
   subst e;exact .inl ⟨ec6 _,hd ys σ H p⟩
end
end L2
namespace L2
open PySem PySem.Spec PyProof.Rows
section
variable {X:Cx}
theorem ch3:∀{bs:List Bool} {us:List Value},o8 (bs.map V.bl) us->us=bs.map Value.bool
 |[],us,h=>by cases h;rfl
 |b::bs,us,h=>by
  cases h with
  |cons r t=>cases r;rw[ch3 t];rfl
theorem cv9 (hc:X.calm=true):K0 X (.builtin "all") (fun xs H Q=>∃(p:Addr) (bs:List Bool),xs=[.ref p]/\i5 X.K H p (bs.map V.bl)/\Q (.bl (bs.all id)) H):=by
 intro pins s σ H xs us Q I r h;obtain ⟨p,bs,rfl,hp,q⟩:=h;obtain ⟨u,rfl,rx⟩:=M9 r;cases rx;obtain ⟨its,rv,pl,_⟩:=I.list hp;have ei:=ch3 rv;refine call_all_walk (wpAny_pyIter_list pl.isList ?_)
 have hlt:p < s.heap.objs.size:=by obtain ⟨o,ho,_⟩:=pl.isList;exact Heap.lt_size ho
 refine ⟨_,_,_,_,_,_,fun i=>bs.getD i false,rfl,Walks.list (A:=X.A.in1) (by rw[Around.in1_handled];exact I.ok.hd hc) s.heap.objs.size p (ed2 hlt) its.toArray,⟨⟨_,Heap.get?_push_size _ rfl,rfl,rfl⟩,?_⟩,fun i v s' Q' E' hP hQ=> ?_,fun h' tk hk=> ?_⟩
 · obtain ⟨o,ho,e⟩:=pl.isList;exact ⟨o,Heap.get?_push_of_some _ ho,e⟩
 · have e:(bs.map Value.bool)[i]? =some v:=by rw[<-ei];simpa using hP
   rw[ec1] at e;obtain ⟨b,hb,rfl⟩:=ei7.mp e;have hQ:Q' (bs.getD i false) s':=hQ;rw[ed0,hb] at hQ;exact wpAny_truthy_bool hQ
 · have e:(eh4 its.toArray.size).all (fun i=>bs.getD i false)=bs.all id:=by
     rw[ec7,ei,eb8,el0,ei6,ei6];constructor
     · intro h b hb;obtain ⟨j,hj⟩:=eh1.mp hb;have:=h j (eg8.mpr (ec0.mp hj).1);rw[ed0,hj] at this;exact this
     · intro h i hi;have hl:=eg8.mp hi;rw[ed0,eb9 hl];exact h _ (ee5 hl)
   rw[e];exact ⟨.bl _,H,I.kept (t':=tk) fun b o hb=>hk b o (fun z=>by rw[eh0.mp z] at hb;exact absurd (Heap.lt_size hb) (eh8 _)) (Heap.get?_push_of_some _ hb),rfl,q⟩
theorem cw0:bootBuiltins "all"=some (.builtin "all"):=by decide+kernel
theorem cw1 {e:Expr}{t:TA}{p pos:Pos}(hc:X.calm=true)(hm:X.mg "all"=none)(ha:PA X [e] t)(hg:Gl X "all":=by rfl)(he:starEach [e] X.env=(false,eval e X.env)::starEach [] X.env:=by rfl):
   PE X (.Call (.Name "all" p) [e] [] pos) (V9 (fun xs H Q=>∃(p:Addr) (bs:List Bool),xs=[.ref p]/\i5 X.K H p (bs.map V.bl)/\Q (.bl (bs.all id)) H) t):=
 K7 (cv9 hc) hg hm cw0 ha (by decide) (by decide) he rfl
def ch4:V->List V->Hp->VK->Prop:=fun x xs H Q=>∃y z,x= .str y/\xs=[.str z]/\Q (.bl (Txt.startswith y z)) H
theorem cw2:MtR X "str.startswith" ch4:=by
 intro pins s σ H x vs v us Q I rx rv h;obtain ⟨y,z,rfl,rfl,q⟩:=h;obtain ⟨k,rfl⟩:=rx;obtain ⟨u,rfl,ru⟩:=rv.one;obtain ⟨k2,rfl⟩:=ru;exact SC.startswith ⟨.bl _,H,I,rfl,q⟩
theorem cw3 {o e:Expr}{to:TE}{t:TA}{apos pos:Pos}(ho:PE X o to)(ha:PA X [e] t)
   (hbase:attributeBase o "startswith" X.env (eval o X.env)=eval o X.env:=by rfl)
   (hfew:((backTo pos (starEach [e] X.env)).all (fun x=> !x.1)&&(backToKw pos (keywordEach [] X.env)).all (fun x=>x.1.isSome)
     &&decide ([e].length+([]:List Keyword).length+(if ([]:List Keyword).isEmpty then 0 else 1) < 30))=true:=by rfl)
   (hline:(apos.endLine==pos.line)=true:=by rfl) (hs:starEach [e] X.env=(false,eval e X.env)::starEach [] X.env:=by rfl) (hplain:(backTo pos (starEach [] X.env)).any (·.1)=false:=by rfl):
   PE X (.Call (.Attribute o "startswith" apos) [e] [] pos) (tBM X.K "str" ch4 to t):=
 W8 PySem.F.plainAttrs_str PySem.F.slot_str_startswith PySem.F.type_str_startswith cw2 ho ha hbase hfew hline hs hplain
def ch5:V->List V->Hp->VK->Prop:=fun x xs H Q=>∃(y sep:Str) (k:Int),x= .str y/\xs=[.str sep,.int k]/\(sep.length==0)=false/\0<=k/\k < 1000/\y.length+2<=sizeLine/\∀l,H l=none->(Txt.splitMax y sep k).length<=sizeLine->Q (.ref l) (i8 H l (.lst ((Txt.splitMax y sep k).map V.str)))
theorem bx6 {x y:Str}{k:Int}(hz:x.length+2<=sizeLine):(Txt.splitMax x y k).length<=sizeLine:=by
 unfold Txt.splitMax
 split
 · exact ee0 (show 1<=x.length+2 by omega) hz
 · split
   · exact ee0 (show 1<=x.length+2 by omega) hz
   · have e1:=StrLaws.occ_length_le_len x y 0 x.length (PySem.limitOf x k);rw[length_partsBetween];omega
theorem cw4:MtR X "str.split" ch5:=by
 intro pins s σ H x vs v us Q I rx rv h;obtain ⟨y,sep,k,rfl,rfl,h0,k0,k1,hz,q⟩:=h;obtain ⟨t,rfl⟩:=rx
 cases rv with
 |cons r1 rr=>
  cases rr with
  |cons r2 rn=>
   cases rn;obtain ⟨t1,rfl⟩:=r1;obtain ⟨t2,rfl⟩:=r2
   have hk:(decide (k < -(2^63:Int))||decide (k≥2^63))=false:=by
     rw[decide_eq_false (by omega),decide_eq_false (by omega)];rfl
   have ln:=bx6 (x:=y) (y:=sep) (k:=k) hz
   have fin:∀(l:List (Str×Tok)) (tk:Nat),l.map (·.1)=Txt.splitMax y sep k->∃(z:V) (H':Hp),i9 X pins σ H' {s with toks:=tk,heap:=s.heap.push {cls:= .type "list",data:= .seq (strValues l).toArray}}/\w4 z (.ref s.heap.objs.size)/\Q z H':=fun l tk e=>by
     refine ⟨.ref s.heap.objs.size,_,I.laid (t':=tk) (o:= .lst ((Txt.splitMax y sep k).map V.str)) (fun b ob g=>Heap.get?_push_of_some _ g) (ec6 _) ?_,rfl,q _ (I.hok.fresh (ec6 _)) ln⟩;exact ⟨by rw[eb8];exact ln,_,0,by rw[<-e];exact az0 l,Heap.get?_push_size _ rfl⟩
   by_cases c1:(decide (y.length < sep.length)||decide (Builtin.Str.strKind y < Builtin.Str.strKind sep))=true
   · exact call_meets F.slot_str_split (typeIs_str _ _ _) F.entry_str_split (F.args_str_split_3 _ _ _) (meets_str_split_max_cannot_occur y sep k t t1 t2 hk c1) (fin [(y,t)] s.toks (if_pos c1).symm)
   · have c1':=el4.mpr c1
     by_cases c2:(Builtin.Str.occurrences y sep 0 y.length (PySem.limitOf y k)).isEmpty=true
     · exact call_meets F.slot_str_split (typeIs_str _ _ _) F.entry_str_split (F.args_str_split_3 _ _ _) (meets_str_split_max_not_found y sep k t t1 t2 hk c1' h0 c2) (fin [(y,t)] s.toks ((if_neg c1).trans (if_pos c2)).symm)
     · have hn:(Builtin.Str.partsBetween y (Builtin.Str.occurrences y sep 0 y.length (PySem.limitOf y k)) sep.length).length<=sizeLine:=by
         have e1:=StrLaws.occ_length_le_len y sep 0 y.length (PySem.limitOf y k);rw[length_partsBetween];omega
       refine call_meets F.slot_str_split (typeIs_str _ _ _) F.entry_str_split (F.args_str_split_3 _ _ _) (meets_str_split_sep_max y sep k t t1 t2 hk c1' h0 (el4.mpr c2) (by omega) hn) ?_;have:=fin (PySem.numbered s.toks (Builtin.Str.partsBetween y (Builtin.Str.occurrences y sep 0 y.length (PySem.limitOf y k)) sep.length)) (s.toks+(Builtin.Str.partsBetween y (Builtin.Str.occurrences y sep 0 y.length (PySem.limitOf y k)) sep.length).length) ((numbered_texts _ _).trans ((if_neg c1).trans (if_neg c2)).symm);rw[<-strsFrom_eq] at this;exact this
theorem cw5 {o e f:Expr}{to:TE}{t:TA}{apos pos:Pos}(ho:PE X o to)(ha:PA X [e,f] t)
   (hbase:attributeBase o "split" X.env (eval o X.env)=eval o X.env:=by rfl)
   (hfew:((backTo pos (starEach [e,f] X.env)).all (fun x=> !x.1)&&(backToKw pos (keywordEach [] X.env)).all (fun x=>x.1.isSome)
     &&decide ([e,f].length+([]:List Keyword).length+(if ([]:List Keyword).isEmpty then 0 else 1) < 30))=true:=by rfl)
   (hline:(apos.endLine==pos.line)=true:=by rfl) (hs:starEach [e,f] X.env=(false,eval e X.env)::starEach [f] X.env:=by rfl) (hplain:(backTo pos (starEach [f] X.env)).any (·.1)=false:=by rfl):
   PE X (.Call (.Attribute o "split" apos) [e,f] [] pos) (tBM X.K "str" ch5 to t):=
 W8 PySem.F.plainAttrs_str PySem.F.slot_str_split PySem.F.type_str_split cw4 ho ha hbase hfew hline hs hplain
theorem cw6:K0 X (.type "int") (fun xs H Q=>∃(x:Str) (n:Int),xs=[.str x]/\PySem.intText? x=some n/\x.length<=640/\Q (.int n) H):=by
 intro pins s σ H xs us Q I r h;obtain ⟨x,n,rfl,hn,hl,q⟩:=h;obtain ⟨u,rfl,rx⟩:=M9 r;obtain ⟨t,rfl⟩:=rx;exact PySem.W.KIN.call_text hn hl ⟨.int n,H,I.tok _,⟨_,rfl⟩,q⟩
theorem dl4 {e:Expr}{t:TA}{p pos:Pos}(hm:X.mg "int"=none)(ha:PA X [e] t)(hg:Gl X "int":=by rfl)(he:starEach [e] X.env=(false,eval e X.env)::starEach [] X.env:=by rfl):
   PE X (.Call (.Name "int" p) [e] [] pos) (V9 (fun xs H Q=>∃(x:Str) (n:Int),xs=[.str x]/\PySem.intText? x=some n/\x.length<=640/\Q (.int n) H) t):=
 W0 cw6 hg hm bm0 ha (by decide) (by decide) he rfl
end
end L2
namespace L2
open PySem PySem.Spec PyProof.Rows
section
variable {prog:Program} {w:World} {A:Around} {E:Value->Shared->Prop} {s:Shared}
theorem cl5 {it t:Addr}{i:Nat}{items:Array Value}{x:Value}{Q:Value->Shared->Prop}(hit:s.heap.IsTupleIter it t i)(ht:s.heap.IsTuple t items)(hx:items[i]? =some x)
   (hQ:∀h',h'.IsTupleIter it t (i+1)->Heap.SameBut it s.heap h'->Q x {s with heap:=h'}):wpAny (model prog w) A (Builtin.SmallTypes.nextOf (.ref it)) Q E s:=by
 obtain ⟨oi,g1,g2,g3⟩:=id hit;obtain ⟨ot,k1,_,n,k2⟩:=ht;unfold Builtin.SmallTypes.nextOf;refine wpAny_bind (wpAny_callSpecial?_slot (name:=Str.ofString "__next__") hit.typeIs F.slot_tuple_iterator_next (wpAny_call_entry F.slot_tuple_iterator_next hit.typeIs F.entry_tuple_iterator_next ?_ (F.args_tuple_iterator_next_1 _)));show wpAny _ _ (field (.ref it) 0 >>=_) _ _ _;refine wpAny_bind (wpAny_field g1 g3 (x:= .ref t) rfl ?_);show wpAny _ _ (ite ((Value.ref t==Value.none)=true) _ _) _ _ _;rw[if_neg (by simp)];show wpAny _ _ (field (.ref it) 1 >>=_) _ _ _;refine wpAny_bind (wpAny_field g1 g3 (x:= .int i 0) rfl ?_);show wpAny _ _ (seqItems? (.ref t) >>=_) _ _ _;refine wpAny_bind (wpAny_seqItems k1 k2 ?_);simp only[ed7,hx];refine wpAny_bind (wpAny_setField g1 g3 (by simp) (wpAny_pure ⟨x,rfl,wpAny_pure (hQ _ ⟨_,Heap.get?_update_self _ g1 (Obj.isFreed_of_fields (Obj.data_mapFields g3 _)),(Obj.cls_mapFields ..).trans g2,?_⟩ (Heap.SameBut.update ..))⟩));rw[Obj.data_mapFields g3];simp [rawInt]
structure dg6 (z TI TO i1 i2 l t:Addr):Prop extends bd0 z TI TO i1 i2 where
 lz:l≠z
 lTO:l≠TO
 li1:l≠i1
 li2:l≠i2
 tz:t≠z
 tTO:t≠TO
 ti1:t≠i1
 ti2:t≠i2
theorem dl5 {z TI TO i1 i2 l t:Addr}{k:Nat}{xs ys:Array Value}{x y a b:Value}{Q:Value->Shared->Prop}(D:dg6 z TI TO i1 i2 l t)
   (hz:IsZip s.heap z TI TO .none) (hTI:IsPair s.heap TI (.ref i1) (.ref i2)) (hTO:IsPair s.heap TO a b) (h1:s.heap.IsListIter i1 l k) (h2:s.heap.IsTupleIter i2 t k) (hl:s.heap.IsList l xs) (ht:s.heap.IsTuple t ys) (hx:xs[k]? =some x) (hy:ys[k]? =some y)
   (hQ:∀h',IsZip h' z TI TO (rawInt s.heap.objs.size)->IsPair h' TO x y->h'.IsListIter i1 l (k+1)->h'.IsTupleIter i2 t (k+1)->IsPair h' s.heap.objs.size x y->
     (∀c o,c≠z->c≠TO->c≠i1->c≠i2->s.heap.get? c=some o->h'.get? c=some o)->Q (.ref s.heap.objs.size) {s with heap:=h'}):
   wpAny (model prog w) A (Builtin.«zip.__next__» ⟨[.ref z],[]⟩) (fun fin s'=>∃v,fin= .done (.ret v)/\Q v s') E s:=by
 show wpAny _ _ (field (.ref z) 2 >>=_) _ _ _;refine wpAny_bind (wpAny_field hz rfl (x:= .bool false) rfl ?_);show wpAny _ _ (field (.ref z) 3 >>=_) _ _ _;refine wpAny_bind (wpAny_field hz rfl (x:= .ref TI) rfl (wpAny_bind (wpAny_seqItems hTI rfl ?_)));show wpAny _ _ (Builtin.SmallTypes.ownedTupleIsFree (.ref z) >>=_) _ _ _;refine wpAny_bind ?_;unfold Builtin.SmallTypes.ownedTupleIsFree;refine wpAny_bind (wpAny_field hz rfl (x:= .none) rfl (wpAny_pure ?_));simp only[if_true];refine wpAny_bind (wpAny_rule (wpAny_bind (wpAny_field hz rfl (x:= .ref TO) rfl (wpAny_bind (wpAny_setField_rec hz (by simp) fun ha za sa=> ?_)))))
 replace za:IsZip ha z TI TO .ellipsis:=za
 have ea:=sa.extBut;refine wpAny_bind ?_;simp only[List.zipIdx_cons,List.zipIdx_nil,em4,eu5];refine wpAny_bind (wpAny_bind (wpAny_onRaise ?_));show wpAny _ _ (Builtin.SmallTypes.nextOf (.ref i1) >>=_) _ _ _;refine wpAny_bind (wpAny_nextOf_list_item (h1.extBut ea D.i1z) (hl.extBut ea D.lz) hx fun hb f1 sb=>wpAny_pure ?_);have eb:=sb.extBut;have TOb:IsPair hb TO a b:=eb _ _ D.TOi1 (ea _ _ D.TOz hTO);refine wpAny_bind (wpAny_seqItems TOb rfl (wpAny_bind (wpAny_updateSeq_pair TOb fun hc TOc sc=> ?_)))
 replace TOc:IsPair hc TO x b:=TOc
 have ec:=sc.extBut;refine wpAny_bind (wpAny_letGo (wpAny_pure ?_));refine wpAny_bind (wpAny_bind (wpAny_onRaise ?_));show wpAny _ _ (Builtin.SmallTypes.nextOf (.ref i2) >>=_) _ _ _
 have ht':hc.IsTuple t ys:=by
   obtain ⟨o,e1,e2⟩:=ht;exact ⟨o,ec _ _ D.tTO (eb _ _ D.ti1 (ea _ _ D.tz e1)),e2⟩
 refine wpAny_bind (cl5 (((h2.extBut ea D.i2z).extBut eb D.i12.symm).extBut ec D.TOi2.symm) ht' hy fun hd f2 sd=>wpAny_pure ?_);have ed:=sd.extBut;have TOd:IsPair hd TO x b:=ed _ _ D.TOi2 TOc;refine wpAny_bind (wpAny_seqItems TOd rfl (wpAny_bind (wpAny_updateSeq_pair TOd fun he TOe se=> ?_)))
 replace TOe:IsPair he TO x y:=TOe
 have ee:=se.extBut;refine wpAny_bind (wpAny_letGo (wpAny_pure (wpAny_pure ?_)));refine wpAny_bind (wpAny_seqItems TOe rfl (wpAny_bind (wpAny_newTuple ?_)))
 have size:he.objs.size=s.heap.objs.size:=by rw[se.1,sd.1,sc.1,sb.1,sa.1]
 have ze:IsZip he z TI TO .ellipsis:=ee _ _ D.TOz.symm (ed _ _ D.i2z.symm (ec _ _ D.TOz.symm (eb _ _ D.i1z.symm za)))
 have all:∀c o,c≠z->c≠TO->c≠i1->c≠i2->s.heap.get? c=some o->he.get? c=some o:=fun c o c1 c2 c3 c4 q=>ee _ _ c2 (ed _ _ c4 (ec _ _ c2 (eb _ _ c3 (ea _ _ c1 q))))
 have g1:he.IsListIter i1 l (k+1):=((f1.extBut ec D.TOi1.symm).extBut ed D.i12).extBut ee D.TOi1.symm;have g2:he.IsTupleIter i2 t (k+1):=f2.extBut ee D.TOi2.symm;show wpAny _ _ (Builtin.SmallTypes.ownedTupleHandOut (.ref z) (.ref he.objs.size) >>=_) _ _ _;refine wpAny_bind ?_;unfold Builtin.SmallTypes.ownedTupleHandOut;have zlt:z < he.objs.size:=Heap.lt_size ze;refine wpAny_bind (wpAny_setField_rec (show IsZip (he.push {cls:= .type "tuple",data:= .seq #[x,y]}) z TI TO .ellipsis from Heap.get?_push_of_some _ ze) (by simp) fun hf zf sf=> ?_)
 replace zf:IsZip hf z TI TO (rawInt he.objs.size):=zf
 refine wpAny_setField_rec zf (by simp) fun hg zg sg=> ?_
 replace zg:IsZip hg z TI TO (rawInt he.objs.size):=zg
 have up:∀c o,c≠z->he.get? c=some o->hg.get? c=some o:=fun c o c1 q=>sg.extBut _ _ c1 (sf.extBut _ _ c1 (Heap.get?_push_of_some _ q))
 have Tg:IsPair hg he.objs.size x y:=sg.extBut _ _ (eq8 zlt) (sf.extBut _ _ (eq8 zlt) (Heap.get?_push_size _ rfl));rw[size] at zg Tg;refine wpAny_pure ⟨_,rfl,?_⟩;show Q (.ref he.objs.size) _;rw[size]
 exact hQ hg zg (up _ _ D.TOz TOe) (g1.at fun o q=>up _ o D.i1z q) (g2.at fun o q=>up _ o D.i2z q) Tg fun c o c1 c2 c3 c4 q=>up c o c1 (all c o c1 c2 c3 c4 q)
theorem dr4 {z TI TO i1 i2 l:Addr}{k:Nat}{xs:Array Value}{a b:Value}{Q:Fin->Shared->Prop}(hh:A.handled=none)(D:bd0 z TI TO i1 i2)(lz:l≠z)
   (hz:IsZip s.heap z TI TO .none) (hTI:IsPair s.heap TI (.ref i1) (.ref i2)) (h1:s.heap.IsListIter i1 l k) (hl:s.heap.IsList l xs) (hx:xs[k]? =none)
   (hE:∀h' e,(∀c o,c≠z->c≠i1->s.heap.get? c=some o->h'.get? c=some o)->(∃o,h'.get? e=some o/\o.cls= .type "StopIteration")->E (.ref e) {s with heap:=h'}):
   wpAny (model prog w) A (Builtin.«zip.__next__» ⟨[.ref z],[]⟩) Q E s:=by
 show wpAny _ _ (field (.ref z) 2 >>=_) _ _ _;refine wpAny_bind (wpAny_field hz rfl (x:= .bool false) rfl ?_);show wpAny _ _ (field (.ref z) 3 >>=_) _ _ _;refine wpAny_bind (wpAny_field hz rfl (x:= .ref TI) rfl (wpAny_bind (wpAny_seqItems hTI rfl ?_)));show wpAny _ _ (Builtin.SmallTypes.ownedTupleIsFree (.ref z) >>=_) _ _ _;refine wpAny_bind ?_;unfold Builtin.SmallTypes.ownedTupleIsFree;refine wpAny_bind (wpAny_field hz rfl (x:= .none) rfl (wpAny_pure ?_));simp only[if_true];refine wpAny_bind (wpAny_rule (wpAny_bind (wpAny_field hz rfl (x:= .ref TO) rfl (wpAny_bind (wpAny_setField_rec hz (by simp) fun ha za sa=> ?_)))))
 replace za:IsZip ha z TI TO .ellipsis:=za
 have ea:=sa.extBut;refine wpAny_bind ?_;simp only[List.zipIdx_cons,List.zipIdx_nil,em4,eu5];refine wpAny_bind (wpAny_bind (wpAny_onRaise ?_));show wpAny _ _ (Builtin.SmallTypes.nextOf (.ref i1) >>=_) _ _ _;refine wpAny_bind (wpAny_nextOf_list_end hh (h1.extBut ea D.i1z) (hl.extBut ea lz) hx fun hb e sb ⟨oe,o1,o2⟩=> ?_);have zb:IsZip hb z TI TO .ellipsis:=sb _ _ D.i1z.symm za
 have ne:e≠z:=fun q=>by subst q;rw[zb] at o1;cases o1;simp at o2
 exact wpAny_setField_rec zb (by simp) fun hc _ sc=>hE hc e (fun c o c1 c3 q=>sc.extBut _ _ c1 (sb _ _ c3 (ea _ _ c1 q))) ⟨oe,sc.extBut _ _ ne o1,o2⟩
def ztH (h:Heap)(l t:Addr):Heap:=((((h.push {cls:= .type "list_iterator",data:= .fields #[.ref l,.int 0 0]}).push {cls:= .type "tuple_iterator",data:= .fields #[.ref t,.int 0 0]}).push {cls:= .type "tuple",data:= .seq #[.ref h.objs.size,.ref (h.objs.size+1)]}).push {cls:= .type "tuple",data:= .seq #[.none,.none]}).push {cls:= .type "zip",data:= .fields #[.none,.bool false,.bool false,.ref (h.objs.size+2),.ref (h.objs.size+3)]}
theorem bx7 (l t:Addr)(xs ys:Array Value):
   Meets (Builtin.«zip.__new__» ⟨[.type "zip",.ref l,.ref t],[]⟩) (fun _ R s=>s.heap.IsList l xs/\s.heap.IsTuple t ys/\R (.ok (.ret (.ref (s.heap.objs.size+4)))) {s with heap:=ztH s.heap l t}):=
 .of_wp fun prog w A R s h=>by
   obtain ⟨hp,g,d,tk,os⟩:=s;obtain ⟨hl,ht,h⟩:=h;have hsub:=sub_zip;have hL:Heap.IsList (Shared.heap ⟨hp,g,d,tk,os⟩) l xs:=hl
   have hT:Heap.IsTuple (Shared.heap ⟨hp.push {cls:= .type "list_iterator",data:= .fields #[.ref l,.int 0 0]},g,d,tk,os⟩) t ys:=by
     obtain ⟨o,e1,e2⟩:=ht;exact ⟨o,Heap.get?_push_of_some _ e1,e2⟩
   wp_walk using wpAny_pyIter_list hL,wpAny_pyIter_tuple hT
   refine ⟨_,rfl,?_⟩;have h':=h;unfold ztH at h';simp only[Heap.size_push] at h' ⊢;exact h'
theorem dl6 {l t:Addr}{xs ys:Array Value}{Q:Value->Shared->Prop}(hl:s.heap.IsList l xs)(ht:s.heap.IsTuple t ys)
   (h:∀h',IsZip h' (s.heap.objs.size+4) (s.heap.objs.size+2) (s.heap.objs.size+3) .none->IsPair h' (s.heap.objs.size+2) (.ref s.heap.objs.size) (.ref (s.heap.objs.size+1))->
     IsPair h' (s.heap.objs.size+3) .none .none->h'.IsListIter s.heap.objs.size l 0->h'.IsTupleIter (s.heap.objs.size+1) t 0->(∀c o,s.heap.get? c=some o->h'.get? c=some o)->Q (.ref (s.heap.objs.size+4)) {s with heap:=h'}):
   wpAny (model prog w) A (call (.type "zip") [.ref l,.ref t]) Q E s:=by
 refine callType_new F.called_zip (by decide) (F.typeCall_zip_2 _ _) (F.newCall_zip_2 _ _) (fun obj=>F.args_object_init_3 obj _ _) F.entry_zip_new (bx7 l t xs ys) ⟨hl,ht,?_⟩
 have up:∀c o,s.heap.get? c=some o->(ztH s.heap l t).get? c=some o:=fun c o q=>Heap.get?_push_of_some _ (Heap.get?_push_of_some _ (Heap.get?_push_of_some _ (Heap.get?_push_of_some _ (Heap.get?_push_of_some _ q))))
 have g5:(ztH s.heap l t).get? (s.heap.objs.size+4)=some {cls:= .type "zip",data:= .fields #[.none,.bool false,.bool false,.ref (s.heap.objs.size+2),.ref (s.heap.objs.size+3)]}:=by
   have:=(show (Heap.push ((((s.heap.push {cls:= .type "list_iterator",data:= .fields #[.ref l,.int 0 0]}).push {cls:= .type "tuple_iterator",data:= .fields #[.ref t,.int 0 0]}).push {cls:= .type "tuple",data:= .seq #[.ref s.heap.objs.size,.ref (s.heap.objs.size+1)]}).push {cls:= .type "tuple",data:= .seq #[.none,.none]}) {cls:= .type "zip",data:= .fields #[.none,.bool false,.bool false,.ref (s.heap.objs.size+2),.ref (s.heap.objs.size+3)]}).get? (Heap.objs ((((s.heap.push {cls:= .type "list_iterator",data:= .fields #[.ref l,.int 0 0]}).push {cls:= .type "tuple_iterator",data:= .fields #[.ref t,.int 0 0]}).push {cls:= .type "tuple",data:= .seq #[.ref s.heap.objs.size,.ref (s.heap.objs.size+1)]}).push {cls:= .type "tuple",data:= .seq #[.none,.none]})).size=some {cls:= .type "zip",data:= .fields #[.none,.bool false,.bool false,.ref (s.heap.objs.size+2),.ref (s.heap.objs.size+3)]} from Heap.get?_push_size _ rfl);simp only[Heap.size_push] at this;exact this
 have g4:(ztH s.heap l t).get? (s.heap.objs.size+3)=some {cls:= .type "tuple",data:= .seq #[.none,.none]}:=by
   have:=(show (Heap.push (((s.heap.push {cls:= .type "list_iterator",data:= .fields #[.ref l,.int 0 0]}).push {cls:= .type "tuple_iterator",data:= .fields #[.ref t,.int 0 0]}).push {cls:= .type "tuple",data:= .seq #[.ref s.heap.objs.size,.ref (s.heap.objs.size+1)]}) {cls:= .type "tuple",data:= .seq #[.none,.none]}).get? (Heap.objs (((s.heap.push {cls:= .type "list_iterator",data:= .fields #[.ref l,.int 0 0]}).push {cls:= .type "tuple_iterator",data:= .fields #[.ref t,.int 0 0]}).push {cls:= .type "tuple",data:= .seq #[.ref s.heap.objs.size,.ref (s.heap.objs.size+1)]})).size=some {cls:= .type "tuple",data:= .seq #[.none,.none]} from Heap.get?_push_size _ rfl);simp only[Heap.size_push] at this;exact Heap.get?_push_of_some _ this
 have g3:(ztH s.heap l t).get? (s.heap.objs.size+2)=some {cls:= .type "tuple",data:= .seq #[.ref s.heap.objs.size,.ref (s.heap.objs.size+1)]}:=by
   have:=(show (Heap.push ((s.heap.push {cls:= .type "list_iterator",data:= .fields #[.ref l,.int 0 0]}).push {cls:= .type "tuple_iterator",data:= .fields #[.ref t,.int 0 0]}) {cls:= .type "tuple",data:= .seq #[.ref s.heap.objs.size,.ref (s.heap.objs.size+1)]}).get? (Heap.objs ((s.heap.push {cls:= .type "list_iterator",data:= .fields #[.ref l,.int 0 0]}).push {cls:= .type "tuple_iterator",data:= .fields #[.ref t,.int 0 0]})).size=some {cls:= .type "tuple",data:= .seq #[.ref s.heap.objs.size,.ref (s.heap.objs.size+1)]} from Heap.get?_push_size _ rfl);simp only[Heap.size_push] at this;exact Heap.get?_push_of_some _ (Heap.get?_push_of_some _ this)
 have g2:(ztH s.heap l t).get? (s.heap.objs.size+1)=some {cls:= .type "tuple_iterator",data:= .fields #[.ref t,.int 0 0]}:=by
   have:=(show (Heap.push (s.heap.push {cls:= .type "list_iterator",data:= .fields #[.ref l,.int 0 0]}) {cls:= .type "tuple_iterator",data:= .fields #[.ref t,.int 0 0]}).get? (Heap.objs (s.heap.push {cls:= .type "list_iterator",data:= .fields #[.ref l,.int 0 0]})).size=some {cls:= .type "tuple_iterator",data:= .fields #[.ref t,.int 0 0]} from Heap.get?_push_size _ rfl);simp only[Heap.size_push] at this;exact Heap.get?_push_of_some _ (Heap.get?_push_of_some _ (Heap.get?_push_of_some _ this))
 have g1:(ztH s.heap l t).get? s.heap.objs.size=some {cls:= .type "list_iterator",data:= .fields #[.ref l,.int 0 0]}:=Heap.get?_push_of_some _ (Heap.get?_push_of_some _ (Heap.get?_push_of_some _ (Heap.get?_push_of_some _ (Heap.get?_push_size _ rfl))));exact ⟨⟨_,g5,rfl⟩,h _ g5 g3 g4 ⟨_,g1,rfl,rfl⟩ ⟨_,g2,rfl,rfl⟩ up⟩
end
def bi9 (a:Addr)(ys:List V):It:=
 ⟨fun i H=>∃xs x y,H a=some (.lst xs)/\xs[i]? =some x/\ys[i]? =some y,
  fun i H v H'=>∃x y t,(∀xs,H a=some (.lst xs)->xs[i]? =some x)/\ys[i]? =some y/\H t=none/\v= .ref t/\H'=i8 H t (.tup [x,y]),
  fun i H=>∃xs,H a=some (.lst xs)/\xs.length<=i⟩
theorem cw7 {P:Program}{w:World}{K:PySem.W.Frag}{elts:List Expr}{x1}{pos:Pos}(a b z TI TO i1 i2:Addr)(D0:bd0 z TI TO i1 i2)(ys:List V)(hb0:∀H,M6 K H b ys)(hbf:b≠z/\b≠TI/\b≠TO/\b≠i1/\b≠i2):
   al4 P w K (.Tuple elts x1 pos) (bi9 a ys) [z,TI,TO,i1,i2] z (fun i h=>IsZip h z TI TO .none/\IsPair h TI (.ref i1) (.ref i2)/\(∃u v,IsPair h TO u v)/\h.IsListIter i1 a i/\h.IsTupleIter i2 b i) where
 mem:=by simp
 obj:=fun i h st c hc=>by
   obtain ⟨hz,hTI,⟨u,v,hTO⟩,⟨o1,g1,c1,d1⟩,⟨o2,g2,c2,d2⟩⟩:=st
   have hc:c=z\/c=TI\/c=TO\/c=i1\/c=i2:=by simpa using hc
   rcases hc with rfl|rfl|rfl|rfl|rfl
   · exact ⟨_,hz,fun v z=>by cases z⟩
   · exact ⟨_,hTI,fun v z=>by cases z⟩
   · exact ⟨_,hTO,fun v z=>by cases z⟩
   · exact ⟨o1,g1,fun v z=>by rw[d1] at z;cases z⟩
   · exact ⟨o2,g2,fun v z=>by rw[d2] at z;cases z⟩
 keep:=fun i h h' st k=>by
   obtain ⟨hz,hTI,⟨u,v,hTO⟩,g1,g2⟩:=st;exact ⟨k z (by simp) _ hz,k TI (by simp) _ hTI,⟨u,v,k TO (by simp) _ hTO⟩,g1.at fun o q=>k i1 (by simp) o q,g2.at fun o q=>k i2 (by simp) o q⟩
 item:=by
   intro X hP hw hK hc i pins s σ H E I hf st hg;subst hP hw hK;obtain ⟨hz,hTI,⟨u0,v0,hTO⟩,g1,g2⟩:=st;obtain ⟨xs,x,y,ha,hx,hy⟩:=hg;have hb:=hb0 H;obtain ⟨_,its,n1,rv,l1,e1⟩:=I.lstM ha;obtain ⟨its2,rv2,pl2,_⟩:=I.tuple hb;obtain ⟨ux,hux,rux⟩:=rv.get hx;obtain ⟨uy,huy,ruy⟩:=rv2.get hy
   have nf:∀c u',H c=some u'->c≠z/\c≠TI/\c≠TO/\c≠i1/\c≠i2:=fun c u' q=>by
     have f:∀d∈[z,TI,TO,i1,i2],c≠d:=fun d hd w=>by
       have:=(hf d hd).1;rw[<-w,q] at this;cases this
     exact ⟨f z (by simp),f TI (by simp),f TO (by simp),f i1 (by simp),f i2 (by simp)⟩
   have na:=nf a _ ha;have D:dg6 z TI TO i1 i2 a b:=⟨D0,na.1,na.2.2.1,na.2.2.2.1,na.2.2.2.2,hbf.1,hbf.2.2.1,hbf.2.2.2.1,hbf.2.2.2.2⟩;have hT:s.TypeIs (.ref z) "zip":=⟨_,hz,rfl⟩;unfold pyNext
   refine wpAny_bind (wpAny_attempt (wpAny_callSpecial?_slot (name:=Str.ofString "__next__") hT F.slot_zip_next (wpAny_call_entry F.slot_zip_next hT F.entry_zip_next
     (dl5 D hz hTI hTO g1 g2 (xs:=its.toArray) (ys:=its2.toArray) ⟨_,e1,rfl,n1,rfl⟩ pl2 (by simpa using hux) (by simpa using huy) fun h' hz' hTO' g1' g2' hT' kk'=>wpAny_pure ?_) (F.args_zip_next_1 _))))
   refine ⟨_,rfl,wpAny_letOwnedTupleGo_zip hz' fun h2 hz2 hs2=> ?_⟩;have hs2:Heap.SameBut z h' h2:=hs2;have ltz:z < s.heap.objs.size:=Heap.lt_size hz;have lTI:TI < s.heap.objs.size:=Heap.lt_size hTI;have lTO:TO < s.heap.objs.size:=Heap.lt_size hTO
   have li1:i1 < s.heap.objs.size:=by obtain ⟨o,ho,_⟩:=g1;exact Heap.lt_size ho
   have li2:i2 < s.heap.objs.size:=by obtain ⟨o,ho,_⟩:=g2;exact Heap.lt_size ho
   have ht2:h2.get? s.heap.objs.size=some {cls:= .type "tuple",data:= .seq #[ux,uy]}:=hs2.extBut _ _ (eq8 ltz) hT'
   have kk:∀c o,c≠z->c≠TO->c≠i1->c≠i2->s.heap.get? c=some o->h2.get? c=some o:=fun c o b1 b2 b3 b4 q=>hs2.extBut c o b1 (kk' c o b1 b2 b3 b4 q)
   have hn:H s.heap.objs.size=none:=I.hok.fresh (ec6 _)
   have nT:∀c u',H c=some u'->c≠s.heap.objs.size:=fun c u' q=>i4 q hn
   have kc:∀c o,c∉[z,TI,TO,i1,i2]->s.heap.get? c=some o->h2.get? c=some o:=fun c o hc q=>kk c o (fun w=>hc (by simp [w])) (fun w=>hc (by simp [w])) (fun w=>hc (by simp [w])) (fun w=>hc (by simp [w])) q
   have I1:i9 X pins σ (i8 H s.heap.objs.size (.tup [x,y])) {s with heap:=h2,gens:=s.gens,drawn:=s.drawn,toks:=s.toks}:=by
     refine I.step (ch:=[z,TI,TO,i1,i2]) (fun c hc=> ?_) (fun c o _ _ hc q _=>kc c o hc q) (fun c o _ _ hc q _=>⟨o.slots,kc c o hc q⟩)
       (fun c o hc q n=>by rw[i6 (ed2 (Heap.lt_size q))];exact n) (fun c o hc q=>⟨o,kc c o hc q⟩)
       (fun c zs q=>by rw[i6 (nT c _ q)];exact q) (fun c o zs q=>by rw[i6 (nT c _ q)];exact q) (fun c ps q=>⟨#[],by rw[i6 (nT c _ q),q];simp⟩) (fun m hm=> ?_) (fun c u' q=> ?_) I.bare
     · have f:=hf c hc;exact ⟨f.2.2.2.1,f.2.1,f.2.2.2.2.1,f.2.2.2.2.2⟩
     · obtain ⟨o,es,ep,ho,r⟩:=hm;exact ⟨o,es,ep,kk _ o (Ne.symm (hf z (by simp)).2.1) (Ne.symm (hf TO (by simp)).2.1) (Ne.symm (hf i1 (by simp)).2.1) (Ne.symm (hf i2 (by simp)).2.1) ho,r⟩
     · by_cases hcT:c=s.heap.objs.size
       · subst hcT;rw[c9] at q;cases q;exact ⟨by show 2<=sizeLine;decide,[ux,uy],.cons rux (.cons ruy .nil),⟨_,ht2,rfl,0,rfl⟩⟩
       · rw[i6 hcT] at q
         refine (I.hok c u' q).stay (fun d v hd q'=> ?_) (fun d q'=>by rw[i6 (nT d _ q')];exact q') fun d zs q'=>by rw[i6 (nT d _ q')];exact q'
         rcases hd with w|w
         · rw[w] at q' ⊢;have:=nf c _ q;exact kk c v this.1 this.2.2.1 this.2.2.2.1 this.2.2.2.2 q'
         · have:=nf d _ w;exact kk d v this.1 this.2.2.1 this.2.2.2.1 this.2.2.2.2 q'
   refine ⟨.ref s.heap.objs.size,_,I1,rfl,⟨x,y,s.heap.objs.size,fun zs hzs=> ?_,hy,hn,rfl,rfl⟩,⟨hz2,?_,⟨ux,uy,?_⟩,?_,?_⟩,fun c hc=> ?_⟩
   · rw[ha] at hzs;cases hzs;exact hx
   · exact kk TI _ D0.TIz D0.TITO D0.TIi1 D0.TIi2 hTI
   · exact hs2.extBut _ _ D0.TOz hTO'
   · exact g1'.extBut hs2.extBut D0.i1z
   · exact g2'.extBut hs2.extBut D0.i2z
   · have hne:c≠s.heap.objs.size:=by
       have hc:c=z\/c=TI\/c=TO\/c=i1\/c=i2:=by simpa using hc
       rcases hc with rfl|rfl|rfl|rfl|rfl
       · exact ed2 ltz
       · exact ed2 lTI
       · exact ed2 lTO
       · exact ed2 li1
       · exact ed2 li2
     rw[i6 hne];exact (hf c hc).1
 done:=by
   intro X hP hw hK hc i pins s σ H E I hf st hg;subst hP hw hK;obtain ⟨hz,hTI,⟨u0,v0,hTO⟩,g1,g2⟩:=st;obtain ⟨xs,ha,hend⟩:=hg;obtain ⟨_,its,n1,rv,l1,e1⟩:=I.lstM ha;have hlen:=rv.length
   have nf:∀c u',H c=some u'->c≠z/\c≠TI/\c≠TO/\c≠i1/\c≠i2:=fun c u' q=>by
     have f:∀d∈[z,TI,TO,i1,i2],c≠d:=fun d hd w=>by
       have:=(hf d hd).1;rw[<-w,q] at this;cases this
     exact ⟨f z (by simp),f TI (by simp),f TO (by simp),f i1 (by simp),f i2 (by simp)⟩
   have na:=nf a _ ha;have hT:s.TypeIs (.ref z) "zip":=⟨_,hz,rfl⟩;unfold pyNext
   refine wpAny_bind (wpAny_attempt (wpAny_callSpecial?_slot (name:=Str.ofString "__next__") hT F.slot_zip_next (wpAny_call_entry F.slot_zip_next hT F.entry_zip_next
     (dr4 (a:= .none) (b:= .none) (I.ok.hd hc) D0 na.1 hz hTI g1 (xs:=its.toArray) ⟨_,e1,rfl,n1,rfl⟩ (by simp;omega) fun h' e kk ⟨o,ho,hcl⟩=> ?_) (F.args_zip_next_1 _))))
   refine wpAny_bind (wpAny_isInstance (T:="StopIteration") (b:=true) ⟨o,ho,hcl⟩ isSubtype_stop (wpAny_pure ⟨rfl,?_⟩))
   have kc:∀c o,c∉[z,TI,TO,i1,i2]->s.heap.get? c=some o->h'.get? c=some o:=fun c o hc q=>kk c o (fun w=>hc (by simp [w])) (fun w=>hc (by simp [w])) q
   refine I.step (g':=s.gens) (d':=s.drawn) (t':=s.toks) (ch:=[z,TI,TO,i1,i2]) (fun c hc=> ?_) (fun c o _ _ hc q _=>kc c o hc q) (fun c o _ _ hc q _=>⟨o.slots,kc c o hc q⟩)
     (fun c o hc q n=>n) (fun c o hc q=>⟨o,kc c o hc q⟩) (fun c zs q=>q) (fun c o zs q=>q) (fun c ps q=>⟨#[],by rw[q];simp⟩) (fun m hm=> ?_) (fun c u' q=> ?_) I.bare
   · have f:=hf c hc;exact ⟨f.2.2.2.1,f.2.1,f.2.2.2.2.1,f.2.2.2.2.2⟩
   · obtain ⟨o,es,ep,ho,r⟩:=hm;exact ⟨o,es,ep,kk _ o (Ne.symm (hf z (by simp)).2.1) (Ne.symm (hf i1 (by simp)).2.1) ho,r⟩
   · refine (I.hok c u' q).stay (fun d v hd q'=> ?_) (fun d q'=>q') fun d zs q'=>q'
     rcases hd with w|w
     · rw[w] at q' ⊢;have:=nf c _ q;exact kk c v this.1 this.2.2.2.1 q'
     · have:=nf d _ w;exact kk d v this.1 this.2.2.2.1 q'
 self:=fun _ _ _ _ _ st h=>wpAny_pyIter_zip st.1 h
section
variable {X:Cx} {l m:Expr} {ta:TA} {p pos:Pos} {elts:List Expr} {x1:Nat} {tpos:Pos}
def StT (K:PySem.W.Frag)(b:Addr)(ys:List V):Prop:=∃(o:Obj) (its:Array Value) (n:Nat),K.lookup b=some o/\o.cls= .type "tuple"/\o.data= .seq its n/\its.size<=sizeLine/\o8 ys its.toList
theorem StT.sq {K:PySem.W.Frag}{b:Addr}{ys:List V}(h:StT K b ys)(H:Hp):M6 K H b ys:= .inr h
def dv5 (K:PySem.W.Frag)(ta:TA):TI:=fun σ H R=>ta σ H fun vs H1=>∃a b xs ys,vs=[.ref a,.ref b]/\H1 a=some (.lst xs)/\StT K b ys/\R (bi9 a ys) H1
theorem ch7 (hm:X.mg "zip"=none)(ha:PA X [l,m] ta)(hg:Gl X "zip":=by rfl)(hs:starEach [l,m] X.env=(false,eval l X.env)::starEach [m] X.env:=by rfl)(hpl:(backTo pos (starEach [m] X.env)).any (·.1)=false:=by rfl):
   PI X (.Tuple elts x1 tpos) (.Call (.Name "zip" p) [l,m] [] pos) (dv5 X.K ta):=by
 intro pins s σ H R I h;refine Call_ (Q2 I hg hm bs6 (PyProof.Rows.callWith_type1 (r6 (ha pos pins s σ H _ I h) fun us s1 ⟨vs,H1,I1,r1,q1⟩=> ?_) hs hpl));obtain ⟨a,b,xs,ys,e,h1a,st,q⟩:=q1;subst e;obtain ⟨u,w',rfl,ru,rw'⟩:=al5 r1;cases ru;cases rw';obtain ⟨_,its,n1,rv,l1,e1⟩:=I1.lstM h1a;obtain ⟨its2,rv2,pl2,_⟩:=I1.tuple (st.sq H1)
 have ltb:b < s1.heap.objs.size:=by obtain ⟨o,ho,_⟩:=pl2;exact Heap.lt_size ho
 have lb:∀k:Nat,b≠s1.heap.objs.size+k:=fun k=>ed2 (ee9 ltb (el7 _ _))
 refine dl6 (xs:=its.toArray) (ys:=its2.toArray) ⟨_,e1,rfl,n1,rfl⟩ pl2 fun h' hz hTI hTO g1 g2 hk=> ?_
 refine wpAny_pyIter_zip hz ?_;have I2:i9 X pins σ H1 {s1 with heap:=h',toks:=s1.toks}:=I1.kept (t':=s1.toks) hk
 have ne:∀(i j:Nat),i≠j->s1.heap.objs.size+i≠s1.heap.objs.size+j:=fun i j h e=>h (Nat.add_left_cancel e)
 refine ⟨s1.heap.objs.size+4,[s1.heap.objs.size+4,s1.heap.objs.size+2,s1.heap.objs.size+3,s1.heap.objs.size,s1.heap.objs.size+1],_,_,H1,rfl,I2,
   cw7 a b (s1.heap.objs.size+4) (s1.heap.objs.size+2) (s1.heap.objs.size+3) s1.heap.objs.size (s1.heap.objs.size+1) ⟨ne 2 4 (by decide),ne 3 4 (by decide),ne 0 4 (by decide),ne 1 4 (by decide),ne 2 3 (by decide),ne 2 0 (by decide),ne 2 1 (by decide),ne 3 0 (by decide),ne 3 1 (by decide),ne 0 1 (by decide)⟩ ys (fun H=>st.sq H) ⟨lb 4,lb 2,lb 3,ed2 ltb,lb 1⟩,
   ⟨hz,hTI,⟨_,_,hTO⟩,g1,g2⟩,fun c hc=> ?_,q⟩
 have hle:s1.heap.objs.size<=c:=by
   simp only[ec8,List.mem_nil_iff,or_false] at hc
   rcases hc with rfl|rfl|rfl|rfl|rfl<;>omega
 exact I1.fpOk hle (I1.hok.fresh hle)
end
theorem dd4 {a:Addr}{ys:List V}{n:Nat}{g:TG}{tb:TS}{D:T9}{σ:St}{H:Hp}(Pv:Nat->St->Hp->Prop)(h0:Pv 0 σ H)(ly:ys.length=n)
   (hl:∀i σ H,i<=n->Pv i σ H->∃xs,H a=some (.lst xs)/\xs.length=n)
   (hs:∀i x y σ H t xs,i < n->H a=some (.lst xs)->xs[i]? =some x->ys[i]? =some y->Pv i σ H->H t=none->g (.ref t) σ (i8 H t (.tup [x,y])) fun σ2 H2=>tb {D with nx:=Pv (i+1),ct:=Pv (i+1),bk:=D.nx} σ2 H2) (hd:∀σ H,Pv n σ H->D.nx σ H):
   ∃W:Nat->Nat->St->Hp->Prop,(∃m,W 0 m σ H)/\∀i m σ H,W i m σ H->
    ((bi9 a ys).stop i H/\D.nx σ H)\/((bi9 a ys).go i H/\∃N:St->Hp->Prop,(∀σ' H',N σ' H'->∃m',m' < m/\W (i+1) m' σ' H')/\∀x H',(bi9 a ys).yld i H x H'->g x σ H' fun σ2 H2=>tb {D with nx:=N,ct:=N,bk:=D.nx} σ2 H2):=by
 refine ⟨fun i m σ H=>m=n - i/\i<=n/\Pv i σ H,⟨n,by simp,ee2 _,h0⟩,?_⟩;rintro i m σ H ⟨rfl,hi,p⟩;obtain ⟨xs,h1,l1⟩:=hl i σ H hi p
 by_cases hlt:i < n
 · refine .inr ⟨⟨xs,xs[i],ys[i],h1,by simp [l1,hlt],by simp [ly,hlt]⟩,Pv (i+1),fun σ' H' p'=>⟨n - (i+1),by omega,rfl,hlt,p'⟩,fun x H' y=> ?_⟩;obtain ⟨x',y',t,y1,y2,y3,e1,e2⟩:=y;subst e1 e2;exact hs i x' y' σ _ t xs hlt h1 (y1 xs h1) y2 p y3
 · have e:i=n:=by omega
   subst e;exact .inl ⟨⟨xs,h1,by omega⟩,hd σ H p⟩
theorem cw8 {a:Addr}{ys:List V}{n:Nat}{g:TG}{tc:TT}{te:TE}{σ0:St}{H:Hp}{Q:VK}(Pv:Nat->List V->St->Hp->Prop)(h0:Pv 0 [] σ0 H)(ly:ys.length=n)
   (hl:∀i zs σ H,i<=n->Pv i zs σ H->∃xs,H a=some (.lst xs)/\xs.length=n)
   (hs:∀i x y zs σ H t xs,i < n->H a=some (.lst xs)->xs[i]? =some x->ys[i]? =some y->Pv i zs σ H->H t=none->g (.ref t) σ (i8 H t (.tup [x,y])) fun σ2 H2=>tc σ2 H2 fun b H4=>if b=true then te σ2 H4 fun y H5=>zs.length < sizeLine/\Pv (i+1) (zs++[y]) σ2 H5 else Pv (i+1) zs σ2 H4)
   (hd:∀zs σ H,Pv n zs σ H->∀D,H D=none->Q (.ref D) (i8 H D (.lst zs))):bc3 (bi9 a ys) g tc te Q σ0 H:=by
 refine ⟨fun i m zs σ H=>m=n - i/\i<=n/\Pv i zs σ H,⟨n,by simp,ee2 _,h0⟩,?_⟩;rintro i m zs σ H ⟨rfl,hi,p⟩;obtain ⟨xs,h1,l1⟩:=hl i zs σ H hi p
 by_cases hlt:i < n
 · refine .inr ⟨⟨xs,xs[i],ys[i],h1,by simp [l1,hlt],by simp [ly,hlt]⟩,Pv (i+1),fun zs' σ' H' p'=>⟨n - (i+1),by omega,rfl,hlt,p'⟩,fun x H' y=> ?_⟩;obtain ⟨x',y',t,y1,y2,y3,e1,e2⟩:=y;subst e1 e2;exact hs i x' y' zs σ _ t xs hlt h1 (y1 xs h1) y2 p y3
 · have e:i=n:=by omega
   subst e;exact .inl ⟨⟨xs,h1,by omega⟩,hd zs σ H p⟩
end L2
namespace L2
open PySem PySem.Spec PyProof.Rows
def ba2 (K:PySem.W.Frag)(w:World)(a:Addr)(kvs:List (Str×Addr)):Prop:=
 (a==sysModules)=false/\(kvs.map (·.1)).Nodup/\∃(o:Obj) (es:List DictEntry) (ep:Nat),K.lookup a=some o/\o.ExactDict/\o.data= .dict es.toArray ep/\Paired (fun (kv:Str×Addr) (e:DictEntry)=>e.hash=hashStr w kv.1/\(∃t,e.key= .str kv.1 t)/\e.val= .ref kv.2) kvs es
def kvK (kvs:List (Str×Addr)):List (x5×Value):=kvs.map fun kv=>(Sum.inr kv.1,.ref kv.2)
def atK (kvs:List (Str×Addr))(k:Str):Option Addr:=(kvs.find? fun kv=>decide (kv.1=k)).map (·.2)
theorem bj0:∀(kvs:List (Str×Addr)) (k:Str),valueAt (kvK kvs) (Sum.inr k)=(atK kvs k).map Value.ref
 |[],k=>rfl
 |kv::kvs,k=>by
  have ih:=bj0 kvs k;unfold valueAt kvK atK at*;rw[eg2]
  by_cases h:kv.1=k
  · rw[em7 (by simpa using h),em7 (by simpa using h)];rfl
  · rw[ej5 (by simpa using h),ej5 (by simpa using h)];exact ih
section
variable {X:Cx} {pins:List (Addr×Obj)} {σ:St} {H:Hp} {s:Shared}
theorem ba2.dict (I:i9 X pins σ H s){a:Addr}{kvs:List (Str×Addr)}(h:ba2 X.K X.w a kvs):s.heap.DictOf (A9 X.prog X.w) a (kvK kvs):=by
 obtain ⟨_,nd,o,es,ep,lk,ex,hd,rel⟩:=h
 have ks:∀{l:List (Str×Addr)} {m:List DictEntry},Paired (fun (kv:Str×Addr) (e:DictEntry)=>e.hash=hashStr X.w kv.1/\(∃t,e.key= .str kv.1 t)/\e.val= .ref kv.2) l m->(∀e∈m,∃k,(A9 X.prog X.w).is k e.key=true/\e.hash=(A9 X.prog X.w).hash k)/\Pairs (A9 X.prog X.w) m (kvK l):=by
   intro l m r
   induction r with
   |nil=>exact ⟨(fun e he=>by cases he),Pairs.nil⟩
   |cons q _ ih=>
    obtain ⟨q1,⟨t,q2⟩,q3⟩:=q;refine ⟨fun e he=> ?_,.cons (by rw[q2];exact Z7 _ _ _ _) q3 ih.2⟩
    rcases ec8.mp he with z|z
    · rw[z];exact ⟨Sum.inr _,by rw[q2];exact Z7 _ _ _ _,q1⟩
    · exact ih.1 e z
 obtain ⟨k1,k2⟩:=ks rel;refine ⟨o,es.toArray,ep,I.kIn a o lk,ex,hd,fun e he=>k1 e (by simpa using he),by simpa using k2,?_⟩;unfold kvK;rw[eh6]
 exact List.Pairwise.map (S:=fun (a b:x5)=>a≠b) (R:=fun (a b:Str)=>a≠b) (fun k=>(Sum.inr k:x5)) (fun a b h e=>h (Sum.inr.inj e)) nd|>fun z=>by rwa [eh6] at z
end
section
variable {X:Cx} {o e:Expr} {to:TE} {t:TA} {apos cpos pos:Pos}
def dv6 (K:PySem.W.Frag)(w:World)(x:V)(xs:List V)(H:Hp)(Q:VK):Prop:=∃(a:Addr) (kvs:List (Str×Addr)) (k:Str),x= .ref a/\xs=[.str k]/\ba2 K w a kvs/\Q (((atK kvs k).map V.ref).getD .non) H
def dv7 (K:PySem.W.Frag)(w:World)(to:TE)(t:TA):TE:=fun σ H Q=>to σ H fun x H1=>(∃a kvs,x= .ref a/\ba2 K w a kvs)/\t σ H1 fun xs H2=>dv6 K w x xs H2 Q
theorem dl7 (ho:PE X o to)(ha:PA X [e] t)
   (hbase:attributeBase o "get" X.env (eval o X.env)=eval o X.env:=by rfl)
   (hfew:((backTo cpos (starEach [e] X.env)).all (fun x=> !x.1)&&(backToKw cpos (keywordEach [] X.env)).all (fun x=>x.1.isSome)
     &&decide ([e].length+([]:List Keyword).length+(if ([]:List Keyword).isEmpty then 0 else 1) < 30))=true:=by rfl)
   (hline:(apos.endLine==cpos.line)=true:=by rfl) (hs:starEach [e] X.env=(false,eval e X.env)::starEach [] X.env:=by rfl) (hplain:(backTo cpos (starEach [] X.env)).any (·.1)=false:=by rfl):
   PE X (.Call (.Attribute o "get" apos) [e] [] cpos) (dv7 X.K X.w to t):=by
 intro pins s σ H Q I h;refine wpAny_Call_method_late hbase hfew hline rfl (r6 (ho pins s σ H _ I h) fun v s1 ⟨x,H1,I1,r1,⟨a0,kvs0,ex0,tb0⟩,q1⟩=> ?_);subst ex0;obtain rfl:v=Value.ref a0:=r1;have dd:=tb0.dict I1
 have nd:∀b,Value.ref a0= .ref b->∃ob,s1.heap.get? b=some ob/\ob.dict=none:=fun b hb=>by
   cases hb;obtain ⟨ob,_,_,e1,e2,_⟩:=dd;exact ⟨ob,e1,e2.2.1⟩
 refine ⟨"dict","dict.get",PySem.F.plainAttrs_dict,PySem.F.slot_dict_get,PySem.F.type_dict_get,dd.typeIs,nd,?_⟩;have hA:=ha cpos pins s1 σ H1 _ I1 q1;rw[hs] at hA ⊢;refine Calls.callWith_builtin (by show (false||(backTo cpos (starEach [] X.env)).any (·.1))=false;rw[hplain]<;>rfl) (Calls.evalArgs_plain ?_)
 refine r6 hA fun us s2 ⟨vs,H2,I2,r2,q2⟩=> ?_
 obtain ⟨a,kvs,k,ex,rfl,tb,q⟩:=q2;cases ex;obtain ⟨u,rfl,ru⟩:=M9 r2;have ru':w4 (kV (Sum.inr k)) u:=ru;have d2:=tb.dict I2;refine call_meetsIn PySem.F.slot_dict_get d2.typeIs PySem.F.entry_dict_get (PySem.F.args_dict_get_2 _ _) (meets_dict_get (A9 X.prog X.w) a0 (ag7 ru') tb.1) ⟨_,d2.mapOf,?_⟩;rw[bj0];refine ⟨((atK kvs k).map V.ref).getD .non,H2,I2.tok _,?_,q⟩
 cases atK kvs k with
 |none=>exact rfl
 |some b=>exact rfl
def ea1 (K:PySem.W.Frag)(w:World)(td ty:TE):TE:=fun σ H Q=>td σ H fun x H1=>ty σ H1 fun y H2=>∃(a:Addr) (kvs:List (Str×Addr)) (k:Str) (b:Addr),x= .ref a/\y= .str k/\ba2 K w a kvs/\atK kvs k=some b/\Q (.ref b) H2
theorem bx8 {i:Expr}{td ty:TE}(ho:PE X o td)(hi:PE X i ty)(hs:cz6 i):PE X (.Subscript o i pos) (ea1 X.K X.w td ty):=by
 intro pins s σ H Q I h;refine cf0 PySem.F.slot_dict_getitem.lookup hs (r6 (ho pins s σ H _ I h) fun u s1 ⟨x,H1,I1,rx,q1⟩=>r6 (hi pins s1 σ H1 _ I1 q1) fun iv s2 ⟨y,H2,I2,ry,a,kvs,k,b,ex,ey,tb,hb,q2⟩=> ?_);subst ex ey;obtain rfl:u=Value.ref a:=rx;have ry':w4 (kV (Sum.inr k)) iv:=ry;have dd:=tb.dict I2
 have hv:valueAt (kvK kvs) (Sum.inr k)=some (.ref b):=by rw[bj0,hb];rfl
 exact ⟨dd.typeIs,wpAny_getItem_of (ag7 ry') dd.mapOf hv ⟨.ref b,H2,I2.tok _,rfl,q2⟩⟩
end
end L2
namespace L2
open PySem PySem.Spec PyProof.Rows
section
variable {P:Program} {w:World} {K:PySem.W.Frag} {mg:Str->Option Value} {base:Heap} {C:Addr} {m:Str} {k:Nat} {ps:List Str} {sp:Sp}
def ao5 (P:Program)(w:World)(K:PySem.W.Frag)(mg:Str->Option Value)(base:Heap)(C:Addr)(m:Str)(k:Nat)(ps:List Str)(sp:Sp):Prop:=
 ∃(f:Addr) (fd:FuncData),Cls K C/\ar1 K C m f/\L6 K fd ps []/\n5 P w K mg base y7 k f fd ps sp
def bq4 (P:Program)(w:World)(K:PySem.W.Frag)(mg:Str->Option Value)(base:Heap)(C:Addr)(m:Str)(k:Nat)(ps:List Str)(sp:Sp):Prop:=
 ∃(f:Addr) (fd:FuncData),Cls K C/\ar1 K C m f/\L6 K fd ps []/\n5 P w K mg base (W2 P w) k f fd ps sp
def cl6 (P:Program)(w:World)(K:PySem.W.Frag)(mg:Str->Option Value)(base:Heap)(x:Str)(C:Addr)(k:Nat)(ps:List Str)(sp:Sp):Prop:=
 ∃(f:Addr) (fd:FuncData),mg x=some (.ref C)/\Mk K C f/\L6 K fd ps []/\n5 P w K mg base y7 k f fd ps sp
end
section
variable {X:Cx} {o e:Expr} {es:List Expr} {to:TE} {t:TA} {C:Addr} {m x:Str} {k:Nat} {ps:List Str} {sp:Sp} {p apos pos:Pos} {E:XK}
theorem S9 {pl:Sem Bool}(c:ao5 X.prog X.w X.K X.mg X.base C m k ps sp)(hr:m7 k X.A)(ho:PE X o to)(ha:PA X (e::es) t)
   (hst:starEach (e::es) X.env=(false,eval e X.env)::starEach es X.env:=by rfl) (hpl:(backTo pos (starEach es X.env)).any (·.1)=false:=by rfl)
   (ht:eval (.Call (.Attribute o m apos) (e::es) [] pos) X.env=(do
     let ov <-eval o X.env
     standAt apos.atName
     let (f,first) <-holding [ov] (getMethod ov m pl)
     callWith pos f first (backTo pos (starEach (e::es) X.env)) (backToKw pos (keywordEach [] X.env))):=by rfl):
   PE X (.Call (.Attribute o m apos) (e::es) [] pos) (cj7 C m sp [] E0 to t):=by
 obtain ⟨f,fd,h1,h2,h3,h4⟩:=c;exact dh7 (pl:=pl) ho h1 h2 h4 hr h3 .nil ck0 ha hst hpl ht
theorem dr5 (c:cl6 X.prog X.w X.K X.mg X.base x C k ps sp)(hr:m7 (k+1) X.A)(hg:Gl X x:=by rfl)(hdb:(x==("__debug__":Str))=false:=by decide):PE X (.Call (.Name x p) [] [] pos) (df2 C sp [] E0 V2):=by
 obtain ⟨f,fd,h1,h2,h3,h4⟩:=c;exact cz4 h2 h4 hr hg h1 h3 .nil ck0 hdb
theorem PE.any (h:PE X.nox o to)(E1:Value->Shared->Prop):PE (X.wish E1) o to:=fun pins s σ H Q I hw=>
 wpAny_mono (h pins s σ H Q (I.unwish.wish _) hw) (fun _ _ ⟨v,H',I',r,q⟩=>⟨v,H',I'.unwish.wish E1,r,q⟩) fun _ _ z=>False.elim z
theorem dl8 {i:Nat}{y:Str}{py sp':Pos}{pl:Sem Bool}(c:bq4 X.prog X.w X.K X.mg X.base C m k ps sp)(hr:m7 k X.A)(hN:X.N.Nodup)(hi:X.N[i]? =some y)(hy:Loc X.env.scope y)(ho:PE X.nox o to)(ha:PA X.nox (e::es) t)
   (he:starEach (e::es) X.env=(false,eval e X.env)::starEach es X.env:=by rfl) (hpl:(backTo pos (starEach es X.env)).any (·.1)=false:=by rfl)
   (ht:eval (.Call (.Attribute o m apos) (e::es) [] pos) X.env=(do
     let ov <-eval o X.env
     standAt apos.atName
     let (f,first) <-holding [ov] (getMethod ov m pl)
     callWith pos f first (backTo pos (starEach (e::es) X.env)) (backToKw pos (keywordEach [] X.env))):=by rfl)
   (hs:swapsWith (.Call (.Attribute o m apos) (e::es) [] pos) (some (.Name y py)) sp'.line X.env=pure false:=by rfl) (hf:X.fn y=true\/X.env.scope.names.lookup y=some .local:=by first|exact .inl rfl|exact .inr rfl|assumption):
   PX X [.Assign [.Name y py] (.Call (.Attribute o m apos) (e::es) [] pos) sp'] (fun E D σ H=>cj7 C m sp [] E to t σ H fun v H1=>D.nx (σ.set i (some v)) H1):=by
 intro pins s σ H D E E1 I hx h
 have ev:wpAny (model X.prog X.w) X.A (eval (.Call (.Attribute o m apos) (e::es) [] pos) X.env) (EP X pins σ fun v H1=>D.nx (σ.set i (some v)) H1) E1 s:=by
   obtain ⟨f,fd,h1,h2,h3,h4⟩:=c;have Iw:i9 (X.wish E1) pins σ H s:=I.wish E1;refine PySem.W.methodCall_KW (pl:=pl) (r6 ((PE.any ho E1) pins s σ H _ Iw h) fun u s1 ⟨x',H1,I1,rx,a,dx,fs,ex,ea,l,q⟩=> ?_) ht;subst ex;obtain rfl:u=Value.ref a:=rx;refine bb4 I1.unwish ea h1 h2 l ?_;refine PySem.W.callWith_K (first:=[.ref a]) (h₀:=X.base) I.ok.mod.kin h2.kp (r6 ((PA.any ha E1) pos pins s1 σ H1 _ I1 q) fun us s2 ⟨vs,H2,I2,r,q2⟩=>⟨I2.kIn,?_⟩) he hpl;have I2':i9 X pins σ H2 s2:=I2.unwish
   have r2:o8 (V.ref a::(vs++[])) (Value.ref a::us):=by rw[ef4];exact .cons rfl r
   have hl:((Value.ref a::us)++[]).length=ps.length:=by rw[ef4,<-r2.length];exact h4.len _ _ _ _ q2
   have hb:=h3 s2 (Value.ref a::us) I2'.kIn hl;rw[ef4] at hb;refine wpAny_call (codeAny_mono (h4.run X.A X.stack s2 H2 ⟨Value.ref a::us,[]⟩ (Value.ref a::us) (V.ref a::(vs++[])) _ E hr I2'.env0 hb r2 q2) fun rr s' hq=> ?_)
   cases rr with
   |error e=>exact hx H2 s2 e s' I2' hq
   |ok fl=>
    cases fl with
    |ret u=>exact I2'.after hq
    |next=>exact False.elim hq
    |brk=>exact False.elim hq
    |cont=>exact False.elim hq
 have first:wpAny (model X.prog X.w) X.A (exec (.Assign [.Name y py] (.Call (.Attribute o m apos) (e::es) [] pos) sp') X.env) (SP X pins D) E1 s:=
   wpAny_Assign_Name (r6 ev fun v s1 ⟨y',H1,I1,r1,q1⟩=>al2 I1 hN hi hy r1 (fun s2 I2=>show SP X pins D .next s2 from ⟨_,H1,I2,q1⟩) hf) hs
 refine wpAny_execs_cons (r6 first fun f s1 q=> ?_)
 cases f with
 |next=>exact wpAny_execs_nil q
 |ret v=>exact q
 |brk=>exact q
 |cont=>exact q
end
end L2
namespace L2
open PySem PySem.Spec PyProof.Rows
structure av7 (K:PySem.W.Frag)(C:Addr):Prop where
 cl:Cls K C
 nk:ad5 K C "kept"
def J1:List (Str×List Str):=[("turn",["into","text"]),("behind",["into","name","name"]),("back",["into","name"]),("power",["into","name","signed"]),("root",["into","name","number"]),("nth",["into","name","number","number"]),("drop",["name"]),("show",["name"]),("kind",["name"]),("home",["name"]),("bars",["name","number"]),("many",["name","number"]),("soonest",["name","number"]),("past",["name","name"]),("alike",["name","name"]),("names",[])]
def E9 (K:PySem.W.Frag)(b:Addr)(ys:List Str):Prop:=StT K b (ys.map V.str)
def W6 (K:PySem.W.Frag)(w:World)(q:Addr):Prop:=∃kvs,ba2 K w q kvs/\Paired (fun (kv:Str×Addr) (r:Str×List Str)=>kv.1=r.1/\E9 K kv.2 r.2) kvs J1
theorem bn5 {K:PySem.W.Frag}:∀{kvs:List (Str×Addr)} {rs:List (Str×List Str)},Paired (fun (kv:Str×Addr) (r:Str×List Str)=>kv.1=r.1/\E9 K kv.2 r.2) kvs rs->∀k ys,(rs.find? fun r=>decide (r.1=k))=some (k,ys)->∃b,atK kvs k=some b/\StT K b (ys.map V.str)
 |[],_,.nil,k,ys,h=>by cases h
 |kv::kvs,r::rs,.cons q t,k,ys,h=>by
  by_cases e:r.1=k
  · rw[em7 (by simpa using e)] at h;cases h;exact ⟨kv.2,by unfold atK;rw[em7 (by simpa using q.1)];rfl,q.2⟩
  · rw[ej5 (by simpa using e)] at h;obtain ⟨b,h1,h2⟩:=bn5 t k ys h;exact ⟨b,by unfold atK at h1 ⊢;rw[ej5 (by rw[q.1];simpa using e)];exact h1,h2⟩
theorem W6.at_ {K:PySem.W.Frag}{w:World}{q:Addr}(h:W6 K w q){k:Str}{ys:List Str}(e:(J1.find? fun r=>decide (r.1=k))=some (k,ys)):∃kvs b,ba2 K w q kvs/\atK kvs k=some b/\StT K b (ys.map V.str):=by
 obtain ⟨kvs,h1,h2⟩:=h;obtain ⟨b,h3,h4⟩:=bn5 h2 k ys e;exact ⟨kvs,b,h1,h3,h4⟩
theorem dr6 {K:PySem.W.Frag}{b:Addr}{od:Option Addr}{m:Nat}{sl:Array (Option Value)}(l:K.lookup b=some ⟨.type "tuple",od,.seq #[] m,sl⟩):E9 K b []:=⟨_,_,_,l,rfl,rfl,ee0 (show 0<=100 by decide) (by rw[sizeLine_eq];decide),Paired.nil⟩
theorem dr7 {K:PySem.W.Frag}{b:Addr}{x0:Str}{t0:Tok}{od:Option Addr}{m:Nat}{sl:Array (Option Value)}(l:K.lookup b=some ⟨.type "tuple",od,.seq #[.str x0 t0] m,sl⟩):E9 K b [x0]:=⟨_,_,_,l,rfl,rfl,ee0 (show 1<=100 by decide) (by rw[sizeLine_eq];decide),Paired.cons ⟨_,rfl⟩ (Paired.nil)⟩
theorem dr8 {K:PySem.W.Frag}{b:Addr}{x0 x1:Str}{t0 t1:Tok}{od:Option Addr}{m:Nat}{sl:Array (Option Value)}(l:K.lookup b=some ⟨.type "tuple",od,.seq #[.str x0 t0,.str x1 t1] m,sl⟩):E9 K b [x0,x1]:=⟨_,_,_,l,rfl,rfl,ee0 (show 2<=100 by decide) (by rw[sizeLine_eq];decide),Paired.cons ⟨_,rfl⟩ (Paired.cons ⟨_,rfl⟩ (Paired.nil))⟩
theorem dr9 {K:PySem.W.Frag}{b:Addr}{x0 x1 x2:Str}{t0 t1 t2:Tok}{od:Option Addr}{m:Nat}{sl:Array (Option Value)}(l:K.lookup b=some ⟨.type "tuple",od,.seq #[.str x0 t0,.str x1 t1,.str x2 t2] m,sl⟩):E9 K b [x0,x1,x2]:=⟨_,_,_,l,rfl,rfl,ee0 (show 3<=100 by decide) (by rw[sizeLine_eq];decide),Paired.cons ⟨_,rfl⟩ (Paired.cons ⟨_,rfl⟩ (Paired.cons ⟨_,rfl⟩ (Paired.nil)))⟩
theorem ds0 {K:PySem.W.Frag}{b:Addr}{x0 x1 x2 x3:Str}{t0 t1 t2 t3:Tok}{od:Option Addr}{m:Nat}{sl:Array (Option Value)}(l:K.lookup b=some ⟨.type "tuple",od,.seq #[.str x0 t0,.str x1 t1,.str x2 t2,.str x3 t3] m,sl⟩):E9 K b [x0,x1,x2,x3]:=⟨_,_,_,l,rfl,rfl,ee0 (show 4<=100 by decide) (by rw[sizeLine_eq];decide),Paired.cons ⟨_,rfl⟩ (Paired.cons ⟨_,rfl⟩ (Paired.cons ⟨_,rfl⟩ (Paired.cons ⟨_,rfl⟩ (Paired.nil))))⟩
theorem cl7 {K:PySem.W.Frag}{w:World}{q b0 b1 b2 b3 b4 b5 b6 b7 b8 b9 b10 b11 b12 b13 b14 b15:Addr}{t0 t1 t2 t3 t4 t5 t6 t7 t8 t9 t10 t11 t12 t13 t14 t15:Tok}{ep:Nat}
   (a:K.lookup q=some ⟨.type "dict",none,.dict #[⟨PyData.keyHash w.params "turn",.str "turn" t0,.ref b0⟩,⟨PyData.keyHash w.params "behind",.str "behind" t1,.ref b1⟩,⟨PyData.keyHash w.params "back",.str "back" t2,.ref b2⟩,⟨PyData.keyHash w.params "power",.str "power" t3,.ref b3⟩,⟨PyData.keyHash w.params "root",.str "root" t4,.ref b4⟩,⟨PyData.keyHash w.params "nth",.str "nth" t5,.ref b5⟩,⟨PyData.keyHash w.params "drop",.str "drop" t6,.ref b6⟩,⟨PyData.keyHash w.params "show",.str "show" t7,.ref b7⟩,⟨PyData.keyHash w.params "kind",.str "kind" t8,.ref b8⟩,⟨PyData.keyHash w.params "home",.str "home" t9,.ref b9⟩,⟨PyData.keyHash w.params "bars",.str "bars" t10,.ref b10⟩,⟨PyData.keyHash w.params "many",.str "many" t11,.ref b11⟩,⟨PyData.keyHash w.params "soonest",.str "soonest" t12,.ref b12⟩,⟨PyData.keyHash w.params "past",.str "past" t13,.ref b13⟩,⟨PyData.keyHash w.params "alike",.str "alike" t14,.ref b14⟩,⟨PyData.keyHash w.params "names",.str "names" t15,.ref b15⟩] ep,#[]⟩) (hq:(q==sysModules)=false)
   (l0:E9 K b0 ["into","text"]) (l1:E9 K b1 ["into","name","name"]) (l2:E9 K b2 ["into","name"]) (l3:E9 K b3 ["into","name","signed"]) (l4:E9 K b4 ["into","name","number"]) (l5:E9 K b5 ["into","name","number","number"]) (l6:E9 K b6 ["name"]) (l7:E9 K b7 ["name"]) (l8:E9 K b8 ["name"]) (l9:E9 K b9 ["name"]) (l10:E9 K b10 ["name","number"]) (l11:E9 K b11 ["name","number"]) (l12:E9 K b12 ["name","number"]) (l13:E9 K b13 ["name","name"]) (l14:E9 K b14 ["name","name"]) (l15:E9 K b15 []):W6 K w q:=by
 refine ⟨[("turn",b0),("behind",b1),("back",b2),("power",b3),("root",b4),("nth",b5),("drop",b6),("show",b7),("kind",b8),("home",b9),("bars",b10),("many",b11),("soonest",b12),("past",b13),("alike",b14),("names",b15)],⟨hq,(show (J1.map (·.1)).Nodup by decide+kernel),_,_,_,a,⟨rfl,rfl,rfl⟩,rfl,?_⟩,?_⟩
 · exact Paired.cons ⟨rfl,⟨_,rfl⟩,rfl⟩ (Paired.cons ⟨rfl,⟨_,rfl⟩,rfl⟩ (Paired.cons ⟨rfl,⟨_,rfl⟩,rfl⟩ (Paired.cons ⟨rfl,⟨_,rfl⟩,rfl⟩ (Paired.cons ⟨rfl,⟨_,rfl⟩,rfl⟩ (Paired.cons ⟨rfl,⟨_,rfl⟩,rfl⟩ (Paired.cons ⟨rfl,⟨_,rfl⟩,rfl⟩ (Paired.cons ⟨rfl,⟨_,rfl⟩,rfl⟩ (Paired.cons ⟨rfl,⟨_,rfl⟩,rfl⟩ (Paired.cons ⟨rfl,⟨_,rfl⟩,rfl⟩ (Paired.cons ⟨rfl,⟨_,rfl⟩,rfl⟩ (Paired.cons ⟨rfl,⟨_,rfl⟩,rfl⟩ (Paired.cons ⟨rfl,⟨_,rfl⟩,rfl⟩ (Paired.cons ⟨rfl,⟨_,rfl⟩,rfl⟩ (Paired.cons ⟨rfl,⟨_,rfl⟩,rfl⟩ (Paired.cons ⟨rfl,⟨_,rfl⟩,rfl⟩ (Paired.nil))))))))))))))))
 · exact Paired.cons ⟨rfl,l0⟩ (Paired.cons ⟨rfl,l1⟩ (Paired.cons ⟨rfl,l2⟩ (Paired.cons ⟨rfl,l3⟩ (Paired.cons ⟨rfl,l4⟩ (Paired.cons ⟨rfl,l5⟩ (Paired.cons ⟨rfl,l6⟩ (Paired.cons ⟨rfl,l7⟩ (Paired.cons ⟨rfl,l8⟩ (Paired.cons ⟨rfl,l9⟩ (Paired.cons ⟨rfl,l10⟩ (Paired.cons ⟨rfl,l11⟩ (Paired.cons ⟨rfl,l12⟩ (Paired.cons ⟨rfl,l13⟩ (Paired.cons ⟨rfl,l14⟩ (Paired.cons ⟨rfl,l15⟩ (Paired.nil))))))))))))))))
def FuM (K:PySem.W.Frag)(C:Addr)(x qual:Str)(st:Stmt)(f:Addr):Prop:=∃fd,ar1 K C x f/\x6 K x qual st f fd
section
variable {P:Program} {w:World} {K:PySem.W.Frag} {mg:Str->Option Value} {base h:Heap} {x qual:Str} {st:Stmt} {f C:Addr} {fd:FuncData} {ps:List Str} {k:Nat} {sp:Sp}
theorem ds1 {oc:Value}{od an:Option Addr}{osl:Array (Option Value)}{kV doc pm cdv ct:Value}(a:PySem.W.findIn K (.ref C) x=some (some (.ref f)))(n:PySem.W.isFn K (.ref f)=true)(l:K.lookup f=some ⟨oc,od,.func (PySem.W.fnOf x qual (Y7 st) (R7 st) (j6 st) .none kV doc pm an cdv ct),osl⟩)
 (c:PySem.W.codeIn K cdv qual=true) (k:PySem.W.keepIn K (.ref f)=true):FuM K C x qual st f:=⟨_,⟨a,n,k⟩,cq5 l c k⟩
theorem bj1 (c:Cls K C)(m:ar1 K C x f)(b:L6 K fd ps [])(ok:n5 P w K mg base y7 k f fd ps sp):ao5 P w K mg base C x k ps sp:=⟨f,fd,c,m,b,ok⟩
theorem dd5 (c:Cls K C)(m:ar1 K C x f)(b:L6 K fd ps [])(ok:n5 P w K mg base (W2 P w) k f fd ps sp):bq4 P w K mg base C x k ps sp:=⟨f,fd,c,m,b,ok⟩
theorem dl9 {y:Str}(X:K.In h)(G:h.Ns mainGlobals mg)(a:PySem.W.nsIn K mainGlobals y=some (some (.ref C)))(mk:PySem.W.makesIn K C=true)(kp:PySem.W.keepIn K (.ref C)=true)(m:ar1 K C "__init__" f)(b:L6 K fd ps [])(ok:n5 P w K mg base y7 k f fd ps sp):cl6 P w K mg base y C k ps sp:=
 ⟨f,fd,PySem.W.mg_of X G a,⟨mk,m.at_,m.fn,kp⟩,b,ok⟩
theorem dd6 (a:PySem.W.plainGet K C Str.empty=true)(b:PySem.W.hasDictIn K C=true)(c:PySem.W.plainOver K C=true)(d:PySem.W.findIn K (.ref C) "__setattr__"=some (some (.builtin "object.__setattr__")))(e:PySem.W.findIn K (.ref C) "kept"=some none):av7 K C:=⟨⟨a,b,c,d⟩,e⟩
end
end L2
namespace L2
open PySem PySem.Builtin PySem.Builtin.Str PySem.StrLaws
theorem ao6 (s sub:Str)(hi limit:Nat):∀(l:List Nat) (st:Array Nat×Nat) (m:List Nat),(∀i∈l,¬(st.1.size < limit/\mS s sub hi i=true))->forIn (l++m) st (occBody s sub hi limit)=forIn m st (occBody s sub hi limit)
 |[],st,m,_=>rfl
 |i::l,st,m,h=>by
  rw[List.cons_append,em4]
  have c:¬(((st.fst.size < limit/\st.snd<=i)/\i+sub.length<=hi)/\subAt s sub i=true):=fun z=>h i ec5 ⟨z.1.1.1,by
    unfold mS;rw[ef7]
    exact ⟨decide_eq_true z.1.2,z.2⟩⟩
  have e:occBody s sub hi limit i st=pure (ForInStep.yield (st.fst,st.snd)):=if_neg c;rw[e];show forIn (l++m) (st.fst,st.snd) (occBody s sub hi limit)=_
  exact ao6 s sub hi limit l st m fun j hj=>h j (ec9 _ hj)
theorem ch9 (s sub:Str)(hi limit k:Nat)(st:Array Nat×Nat)(m:List Nat)(h1:st.1.size < limit)(h2:st.2<=k)(hk:mS s sub hi k=true):forIn (k::m) st (occBody s sub hi limit)=forIn m (st.1.push k,k+sub.length) (occBody s sub hi limit):=by
 have z:=hk;unfold mS at z;rw[ef7] at z;rw[em4];have e:occBody s sub hi limit k st=pure (ForInStep.yield (st.1.push k,k+sub.length)):=if_pos ⟨⟨⟨h1,h2⟩,of_decide_eq_true z.1⟩,z.2⟩;rw[e];rfl
theorem dm0 {s sub:Str}{a b:Nat}(ha:mS s sub s.length a=true)(hb:mS s sub s.length b=true)(ab:a+sub.length<=b)(l1:1<=sub.length)(no1:∀i,i < a->mS s sub s.length i=false)(no2:∀i,a < i->i < b->mS s sub s.length i=false):occurrences s sub 0 s.length 2=[a,b]:=by
 have kl:b+sub.length<=s.length:=by
   unfold mS at hb;rw[ef7] at hb;exact of_decide_eq_true hb.1
 rw[occ_eq];show (forIn (eh2 0 (s.length+1 - 0)) ((#[]:Array Nat),0) (occBody s sub s.length 2)).run.fst.toList=_
 have cut:∀(x y n:Nat),x<=y->y < x+n->eh2 x n=eh2 x (y - x)++(y::eh2 (y+1) (x+n - y - 1)):=fun x y n h1 h2=>by
   have e1:y::eh2 (y+1) (x+n - y - 1)=eh2 (x+(y - x)) (x+n - y - 1+1):=by rw[List.range'_succ];congr 1<;>(try congr 1)<;>omega
   rw[e1,en8]
   congr 1
   omega
 rw[cut 0 a _ (ee2 _) (by omega),ao6 s sub s.length 2 _ _ _ (fun i hi z=>by
   have:=es6.mp hi;rw[no1 i (by omega)] at z
   exact absurd z.2 (by decide)),ch9 s sub s.length 2 a _ _ (by simp) (ee2 _) ha]
 rw[cut (a+1) b _ (by omega) (by omega),ao6 s sub s.length 2 _ _ _ (fun i hi z=>by
   have:=es6.mp hi;rw[no2 i (by omega) (by omega)] at z
   exact absurd z.2 (by decide)),ch9 s sub s.length 2 b _ _ (by simp) ab hb]
 have:=ao6 s sub s.length 2 (eh2 (b+1) (a+1+(0+(s.length+1 - 0) - a - 1) - b - 1)) ((#[].push a).push b,b+sub.length) [] (fun i _ z=>absurd z.1 (by simp));rw[ef4] at this;rw[this];rfl
theorem at8:(Str.ofString " ").cps.toList=[32]:=by decide+kernel
theorem ao7 (s:Str)(i:Nat):mS s " " s.length i=decide (s.cps.toList[i]? =some 32):=by
 rw[show (" ":Str)=Str.ofString " " from rfl,dg0 at8];unfold Mth.mL
 by_cases h:i < s.cps.toList.length
 · rw[es8 h,eb9 h];show (s.cps.toList[i]::List.take 0 _==[32])=_;rw[en4,el0,decide_eq_true_iff,beq_iff_eq];constructor
   · intro z;rw[List.cons.inj z|>.1]
   · intro z;rw[Option.some.inj z]
 · rw[List.drop_eq_nil_of_le (by omega),ed5 (by omega)];rfl
theorem bj2 (s:Str)(i j:Nat):(strSub s i j).cps.toList=(s.cps.toList.drop i).take (j - i):=by
 unfold strSub;simp [eq6,List.take_drop,eo4]
theorem cl8 (x:Str):1<=Builtin.Str.strKind x:=by unfold Builtin.Str.strKind;split<;>(try split)<;>omega
theorem bx9 {a b t:Str}(na:32∉a.cps.toList)(nb:32∉b.cps.toList):Txt.splitMax (a++" "++b++" "++t) " " 2=[a,b,t]:=by
 have tl:(a++" "++b++" "++t).cps.toList=a.cps.toList++([32]++(b.cps.toList++([32]++t.cps.toList))):=by
   have e:(" ":Str).cps.toList=[32]:=at8;rw[C2,C2,C2,C2,e];simp
 have ln:(a++" "++b++" "++t).length=a.cps.toList.length+1+b.cps.toList.length+1+t.cps.toList.length:=by
   show (a++" "++b++" "++t).cps.toList.length=_;rw[tl];simp only[ec2,ef6,eu0];omega
 have w1:(" ":Str).length=1:=by decide+kernel
 have at1:∀i,i < a.cps.toList.length->mS (a++" "++b++" "++t) " " (a++" "++b++" "++t).length i=false:=fun i hi=>by
   rw[ao7,tl,ef3 hi,eb9 hi]
   refine decide_eq_false fun z=>na ?_
   rw[<-Option.some.inj z];exact ee5 hi
 have at2:∀i,a.cps.toList.length < i->i < a.cps.toList.length+1+b.cps.toList.length->mS (a++" "++b++" "++t) " " (a++" "++b++" "++t).length i=false:=fun i h1 h2=>by
   rw[ao7,tl,ed6 (by omega),ed6 (by show 1<=_;omega),ef3 (by show _ - _ - 1 < _;omega)]
   have hi:i - a.cps.toList.length - [32].length < b.cps.toList.length:=by show _ - _ - 1 < _;omega
   rw[eb9 hi]
   refine decide_eq_false fun z=>nb ?_
   rw[<-Option.some.inj z];exact ee5 hi
 have h1:mS (a++" "++b++" "++t) " " (a++" "++b++" "++t).length a.cps.toList.length=true:=by
   rw[ao7,tl,ed6 (ec6 _),Nat.sub_self];rfl
 have h2:mS (a++" "++b++" "++t) " " (a++" "++b++" "++t).length (a.cps.toList.length+1+b.cps.toList.length)=true:=by
   rw[ao7,tl,ed6 (by omega),ed6 (by show 1<=_;omega),ed6 (by show _<=_ - _ - 1;omega)];rw[show a.cps.toList.length+1+b.cps.toList.length - a.cps.toList.length - [32].length - b.cps.toList.length=0 by show _ - _ - 1 - _=0;omega];rfl
 have oc:=dm0 h1 h2 (by rw[w1];omega) (by rw[w1];exact ec6 1) at1 at2;unfold Txt.splitMax
 have k1:Builtin.Str.strKind (" ":Str)=1:=by decide+kernel
 rw[if_neg (by
   rw[k1,w1,decide_eq_false (by omega),decide_eq_false (by have:=cl8 (a++" "++b++" "++t);omega)]
   decide),show PySem.limitOf (a++" "++b++" "++t) 2=2 from rfl,oc,if_neg (by simp)]
 show [strSub _ 0 a.cps.toList.length,strSub _ (a.cps.toList.length+(" ":Str).length) (a.cps.toList.length+1+b.cps.toList.length),strSub _ (a.cps.toList.length+1+b.cps.toList.length+(" ":Str).length) (a++" "++b++" "++t).length]=[a,b,t];rw[w1];have e1:strSub (a++" "++b++" "++t) 0 a.cps.toList.length=a:=O6 (by rw[bj2,tl];simp)
 have e2:strSub (a++" "++b++" "++t) (a.cps.toList.length+1) (a.cps.toList.length+1+b.cps.toList.length)=b:=O6 (by
   rw[bj2,tl,<-ee7,eu3 (by simp),List.take_left' (by omega)])
 have e3:strSub (a++" "++b++" "++t) (a.cps.toList.length+1+b.cps.toList.length+1) (a++" "++b++" "++t).length=t:=O6 (by
   rw[bj2,tl,ln,<-ee7,<-ee7,<-ee7,eu3 (by simp;omega),eh3 (by omega)])
 rw[e1,e2,e3]
end L2
namespace My
open PySem L2 Mth
section
variable {P:Program} {w:World} {K:PySem.W.Frag} {mg:Str->Option Value} {base:Heap}
def inS (s:Str)(c:Nat):Bool:= !(Builtin.Str.occurrences s (sgn c) 0 s.length 1).isEmpty
def by0:Str:="abcdefghijklmnopqrstuvwxyz"
def ao8:Str:="0123456789"
theorem cc5:∀k,k < 10->inS ao8 (48+k)=true:=by decide+kernel
def Z9 (s:Str)(most:Int)(x:Str):Bool:=decide ((1:Int)<=(x.length:Int))&&(decide ((x.length:Int)<=most)&&x.cps.toList.all (inS s))
def ao9:Sp:=fun vs H Q _=>∃(s x:Str) (m:Int),vs=[.str s,.int m,.str x]/\x.length<=100000/\∀H',e8 H H'->Q (.bl (Z9 s m x)) H'
theorem bp2:m9 ["signs","most","word"] ["signs","most","word"] (j6 ae9):=by rfl'
theorem af8:(["sign","signs"]:List Str).Nodup:=by decide+kernel
theorem bp3 {f:Addr}{fd:FuncData}(F:x6 K "is_word_of" "is_word_of" ae9 f fd)(B:Bl mg):n5 P w K mg base y7 1 f fd ["signs","most","word"] ao9:=by
 refine F.ok bp2 (fun vs H Q E h=> ?_) (fun cdv A outer s H vs Q E hr h=> ?_)
 · obtain ⟨s,x,m,rfl,lx,q⟩:=h;rfl
 · obtain ⟨s,x,m,rfl,lx,q⟩:=h;have hu:=O1 hr;refine ⟨_,c8 (j5 (bb0 (cy9 cj1 cj1 j4 (K7 br6 (by rfl) B.len PySem.boot_len (c5 (pv 2) c6)) (pv 1)) (aq7 (cw1 rfl B.all (c5 (G9 (N:=["sign","signs"]) (nl:=1) (fr:=[0]) rfl .of (dr3 (pv 2)) (fun _ _ _ _ _=>o7 (i:=0) af8 rfl (Or.inl rfl)) (fun _ _ _ _ _=>B7) (fun _ _ _ _ _=>(G6 (co6) (pv 0) (pv 1) (by with_unfolding_all rfl)))) c6))))),?_⟩;have sz:x.length<=sizeLine:=ee0 lx (by rw[sizeLine_eq];decide);refine ⟨_,rfl,x,rfl,sz,_,_,rfl,rfl,_,rfl,?_⟩;unfold Z9 at q
   by_cases c1:(1:Int)<=(x.length:Int)
   · rw[decide_eq_true c1] at q ⊢;refine A8 ⟨_,rfl,_,_,rfl,rfl,_,rfl,?_⟩
     by_cases c2:(x.length:Int)<=m
     · rw[decide_eq_true c2] at q ⊢;refine A8 ⟨_,rfl,x,rfl,dd3 (fun i ys σ H'=>ys=((x.cps.toList.take i).map (inS s)).map V.bl/\(∃v:Option V,σ=[v,some (.str s)])/\H'=H) ⟨rfl,⟨none,rfl⟩,rfl⟩ ?_ ?_⟩
       · rintro i c ys σ H1 hc ⟨rfl,⟨v,rfl⟩,rfl⟩
         have hi:i < x.cps.size:=by
           by_cases z:i < x.cps.size
           · exact z
           · rw[ep7 (by omega)] at hc;cases hc
         refine ⟨_,rfl,_,rfl,_,_,rfl,rfl,?_,?_,⟨_,rfl⟩,rfl⟩
         · rw[eb8,eb8,ed3];have:x.cps.toList.length=x.length:=rfl;exact ee9 (el9 (Nat.min_le_left ..) hi) sz
         · have e:x.cps.toList[i]? =some c:=by rw[ef2];exact hc
           rw[es3,e,ec3,ec3];rfl
       · rintro ys σ H1 ⟨rfl,v1,rfl⟩ D hD;rw[eh3 (show x.cps.toList.length<=x.cps.size by rw[ef5];exact ec6 _)];refine ⟨D,_,rfl,i5.of c9,?_⟩;rw[List.all_map];exact q (i8 H1 D (.lst ((x.cps.toList.map (inS s)).map V.bl))) (e8.upd_new hD)
     · rw[decide_eq_false c2] at q ⊢;exact n9 (q _ (fun _ _ z=>z))
   · rw[decide_eq_false c1] at q ⊢;exact n9 ⟨_,rfl,n9 (q _ (fun _ _ z=>z))⟩
def by1:Sp:=fun vs H Q _=>∃(x:Str),vs=[.str x]/\x.length<=100000/\∀H',e8 H H'->Q (.bl (Z9 by0 8 x)) H'
theorem cl9:m9 ["word"] ["word"] (j6 as9):=by rfl'
theorem cm0 {f:Addr}{fd:FuncData}(F:x6 K "is_name" "is_name" as9 f fd)(zhy:∃t,mg "MOST_LETTERS"=some (.int 8 t))(yw:∃t,mg "LETTERS"=some (.str "abcdefghijklmnopqrstuvwxyz" t))(zox:m8 P w K mg base "is_word_of" 1 ["signs","most","word"] ao9):n5 P w K mg base y7 2 f fd ["word"] by1:=by
 refine F.ok cl9 (fun vs H Q E h=> ?_) (fun cdv A outer s H vs Q E hr h=> ?_)
 · obtain ⟨x,rfl,lx,q⟩:=h;rfl
 · obtain ⟨x,rfl,lx,q⟩:=h;obtain ⟨_,ysz⟩:=zhy;obtain ⟨_,m_LETTERS⟩:=yw;have zfx:m7 1 _:=hr.mono (by decide);refine ⟨_,c8 (j5 (i7 zox zfx (c5 (B3 (v:= .str "abcdefghijklmnopqrstuvwxyz") (by rfl) m_LETTERS ⟨_,rfl⟩) (c5 (B3 (v:= .int 8) (by rfl) ysz ⟨_,rfl⟩) (c5 (pv 0) c6))))),?_⟩;exact ⟨_,rfl,_,x,_,rfl,lx,q⟩
def by2 (x:Str):Bool:=Z9 ao8 9 x&&(decide (x="0")|| !decide (x.cps.toList[0]? =some 48))
def ba3:Sp:=fun vs H Q _=>∃(x:Str),vs=[.str x]/\x.length<=100000/\∀H',e8 H H'->Q (.bl (by2 x)) H'
theorem by3:m9 ["word"] ["word"] (j6 ai8):=by rfl'
theorem by4 {f:Addr}{fd:FuncData}(F:x6 K "is_number" "is_number" ai8 f fd)(zhx:∃t,mg "MOST_FIGURES"=some (.int 9 t))(ywz:∃t,mg "FIGURES"=some (.str "0123456789" t))(zox:m8 P w K mg base "is_word_of" 1 ["signs","most","word"] ao9):n5 P w K mg base y7 2 f fd ["word"] ba3:=by
 refine F.ok by3 (fun vs H Q E h=> ?_) (fun cdv A outer s H vs Q E hr h=> ?_)
 · obtain ⟨x,rfl,lx,q⟩:=h;rfl
 · obtain ⟨x,rfl,lx,q⟩:=h;obtain ⟨_,ysy⟩:=zhx;obtain ⟨_,m_FIGURES⟩:=ywz;have zfx:m7 1 _:=hr.mono (by decide);refine ⟨_,c8 (j5 (bb0 (i7 zox zfx (c5 (B3 (v:= .str "0123456789") (by rfl) m_FIGURES ⟨_,rfl⟩) (c5 (B3 (v:= .int 9) (by rfl) ysy ⟨_,rfl⟩) (c5 (pv 0) c6)))) (aq7 (dt1 (G6 y8 (pv 0) j7 (j8 _)) (aq7 (G6 J3 (ca6 (pv 0) j4 (fun _ _=>rfl)) j7 (j8 _))))))),?_⟩;refine ⟨_,rfl,_,x,_,rfl,lx,fun H1 s1=>⟨_,rfl,?_⟩⟩;have q':=q H1 s1;unfold by2 at q'
   cases hw:Z9 ao8 9 x with
   |false=>
    rw[hw] at q';have e:Z9 "0123456789" 9 x=false:=hw;rw[e];exact n9 q'
   |true=>
    rw[hw] at q';have e:Z9 "0123456789" 9 x=true:=hw;rw[e];refine A8 ⟨_,rfl,rfl,_,rfl,?_⟩
    by_cases z:x="0"
    · subst z;exact A8 q'
    · rw[decide_eq_false (fun y=>z (V.str.inj y))];rw[decide_eq_false z] at q'
      have l1:1<=x.length:=by
        unfold Z9 at hw;rw[ef7] at hw;have:=of_decide_eq_true hw.1;omega
      have hx:0 < x.cps.size:=l1;refine n9 ⟨_,rfl,x,0,x.cps[0],rfl,rfl,by decide,by decide,by omega,by simp [hx],rfl,?_⟩
      have e0:x.cps.toList[0]? =some x.cps[0]:=by rw[ef2];simp [hx]
      rw[e0] at q'
      by_cases z0:x.cps[0]=48
      · rw[z0] at q' ⊢;exact q'
      · rw[decide_eq_false (fun y=>z0 (Option.some.inj y))] at q'
        rw[decide_eq_false (fun y=>z0 (by
          have y1:=congrArg Str.cps (V.str.inj y);have y2: #[x.cps[0]]= #[48]:=y1.trans (by decide+kernel)
          simpa using y2))]
        exact q'
def ba4 (x place:Str):Bool:=if place="text" then true else if place="number" then by2 x else Z9 by0 8 x
def by5:Sp:=fun vs H Q _=>∃(x y:Str),vs=[.str x,.str y]/\x.length<=100000/\y≠"signed"/\∀H',e8 H H'->Q (.bl (ba4 x y)) H'
theorem bp4:m9 ["word","place"] ["word","place"] (j6 af0):=by rfl'
theorem bp5 {f:Addr}{fd:FuncData}(F:x6 K "fits_place" "fits_place" af0 f fd)(zaz:m8 P w K mg base "is_number" 2 ["word"] ba3)(ywy:m8 P w K mg base "is_name" 2 ["word"] by1):n5 P w K mg base y7 3 f fd ["word","place"] by5:=by
 refine F.ok bp4 (fun vs H Q E h=> ?_) (fun cdv A outer s H vs Q E hr h=> ?_)
 · obtain ⟨x,y,rfl,lx,ny,q⟩:=h;rfl
 · obtain ⟨x,y,rfl,lx,ny,q⟩:=h;have yoy:m7 2 _:=hr.mono (by decide);have hr_is_name:m7 2 _:=hr.mono (by decide)
   refine ⟨_,c7 (o6 (j9 y8 (pv 1) j7 (j8 _)) (c8 (j5 E5)) k7)
     (c7 (o6 (j9 y8 (pv 1) j7 (j8 _)) (c8 (j5 (i7 zaz yoy (c5 (pv 0) c6)))) k7)
     (c7 (o6 (j9 y8 (pv 1) j7 (j8 _)) (c8 (j5 E8)) k7)
     (c8 (j5 (i7 ywy hr_is_name (c5 (pv 0) c6)))))),?_⟩
   unfold ba4 at q;refine ⟨_,rfl,rfl,_,rfl,?_⟩
   by_cases c1:y="text"
   · subst c1;exact A8 (q _ fun _ _ z=>z)
   · rw[decide_eq_false (fun z=>c1 (V.str.inj z))];rw[if_neg c1] at q;refine n9 ⟨_,rfl,rfl,_,rfl,?_⟩
     by_cases c2:y="number"
     · subst c2;exact A8 ⟨_,rfl,x,rfl,lx,q⟩
     · rw[decide_eq_false (fun z=>c2 (V.str.inj z))];rw[if_neg c2] at q;refine n9 ⟨_,rfl,rfl,_,rfl,?_⟩;rw[decide_eq_false (fun z=>ny (V.str.inj z))];exact n9 ⟨_,rfl,x,rfl,lx,q⟩
theorem bn6 {x y:Str}(hz:x.length+2<=sizeLine):(Builtin.Str.partsBetween x (Builtin.Str.occurrences x y 0 x.length (x.length+1)) y.length).length<=sizeLine:=by
 have e1:=StrLaws.occ_length_le_len x y 0 x.length (x.length+1);rw[PySem.length_partsBetween];omega
theorem cx1 {x y:Str}(hz:x.length+2<=sizeLine):(Txt.split x y).length<=sizeLine:=by
 unfold Txt.split
 split
 · exact ee0 (show 1<=x.length+2 by omega) hz
 · split
   · exact ee0 (show 1<=x.length+2 by omega) hz
   · exact bn6 hz
def M1 (row:Str)(ws:List Str):Prop:=row.length<=50000/\(∀x∈ws,x.length<=50000)/\((Txt.startswith row "turn "=true/\Txt.splitMax row " " 2=ws)\/(Txt.startswith row "turn "=false/\Txt.split row " "=ws/\ws≠[]))
def by6:Sp:=fun vs H Q _=>∃(row:Str) (ws:List Str),vs=[.str row]/\M1 row ws/\∀l H',H l=none->e8 H H'->H' l=some (.lst (ws.map V.str))->Q (.ref l) H'
theorem cc6:m9 ["row"] ["row"] (j6 an3):=by rfl'
theorem cc7 {f:Addr}{fd:FuncData}(F:x6 K "part_row" "part_row" an3 f fd):n5 P w K mg base y7 1 f fd ["row"] by6:=by
 refine F.ok cc6 (fun vs H Q E h=> ?_) (fun cdv A outer s H vs Q E hr h=> ?_)
 · obtain ⟨row,ws,rfl,rw_,q⟩:=h;rfl
 · obtain ⟨row,ws,rfl,rw_,q⟩:=h
   refine ⟨_,c7 (o6 (G8 (cw3 (pv 0) (c5 j7 c6))) (c8 (j5 (cw5 (pv 0) (c5 j7 (c5 j4 c6))))) k7)
     (c8 (j5 (az1 (pv 0) (c5 j7 c6)))),?_⟩
   obtain ⟨lr,lw,h⟩:=rw_;have sz:row.length+2<=sizeLine:=ee0 (Nat.add_le_add_right lr 2) (by rw[sizeLine_eq];decide);refine ⟨_,rfl,⟨rfl,⟨row,_,rfl,rfl,_,rfl,?_⟩⟩⟩
   rcases h with ⟨h1,h2⟩|⟨h1,h2,h3⟩
   · have e:Txt.startswith row "turn "=true:=h1;rw[e];refine A8 ⟨_,rfl,rfl,row,_,2,rfl,rfl,by decide,by decide,by decide,sz,fun l hl le=> ?_⟩;rw[h2];exact q l _ hl (e8.upd_new hl) c9
   · rw[h1];refine n9 ⟨_,rfl,rfl,row,_,rfl,rfl,by decide,Nat.le_of_add_right_le sz,bn6 sz,cx1 sz,fun l hl=> ?_⟩
     · rw[h2];exact q l _ hl (e8.upd_new hl) c9
end
end My
namespace My
open PySem L2 Mth
section
variable {P:Program} {w:World} {K:PySem.W.Frag} {mg:Str->Option Value} {base:Heap} {zxy zzy:Addr} {zvy zyx zzx zy zyz zxx zzz zx zw zwz zv:Addr}
def ac5 (wd:Str)(args ys:List Str):Prop:=(J1.find? fun r=>decide (r.1=wd))=some (wd,ys)/\args.length=ys.length/\(∀y∈ys,y≠"signed")/\(∀x∈args,x.length<=50000)/\∀(i:Nat) (x y:Str),args[i]? =some x->ys[i]? =some y->ba4 x y=true
theorem be8 {wd:Str}{ys:List Str}(h:(J1.find? fun r=>decide (r.1=wd))=some (wd,ys)):ys.length<=4:=by
 have:=es9 h
 have all:∀r∈J1,r.2.length<=4:=by decide+kernel
 exact all _ this
def bj3:Sp:=fun vs H Q _=>∃(l:Addr) (wd:Str) (args ys:List Str),vs=[.ref l]/\H l=some (.lst ((wd::args).map V.str))/\ac5 wd args ys/\∀H',e8 H H'->Q (.bl true) H'
theorem bn7:m9 ["words","places"] ["words"] (j6 az4):=by rfl'
theorem X8:(["word","place"]:List Str).Nodup:=by decide+kernel
theorem cx2 {f:Addr}{fd:FuncData}(F:x6 K "is_row" "is_row" az4 f fd)(B:Bl mg)(zcy:m8 P w K mg base "fits_place" 3 ["word","place"] by5)(ztx:mg "PLACES"=some (.ref zxy))(TK:W6 K w zxy):n5 P w K mg base y7 4 f fd ["words"] bj3:=by
 refine F.ok bn7 (fun vs H Q E h=> ?_) (fun cdv A outer s H vs Q E hr h=> ?_)
 · obtain ⟨l,wd,args,ys,rfl,hl,ro,q⟩:=h;rfl
 · obtain ⟨l,wd,args,ys,rfl,hl,ro,q⟩:=h;have yqy:m7 3 _:=hr.mono (by decide)
   refine ⟨_,c7 (m6 (i:=1) bn7.nd rfl (Or.inl rfl) (dl7 (B3 (v:= .ref zxy) (by rfl) ztx rfl) (c5 (p8 o0 (pv 0) j4 (fun _ _=>rfl)) c6)))
     (c7 (o6 (R5 (j9 bb3 (pv 1) O4 (j8 _)) (Q3 (j9 J3 (x9 B.len (c5 (pv 0) c6)) (q0 Q4 (x9 B.len (c5 (pv 1) c6)) j4) (j8 _)))).pt (c8 (j5 E5)) k7)
     (c8 (j5 (cw1 rfl B.all (c5 (G9 (N:=["word","place"]) (nl:=2) (fr:=[]) rfl .of (ch7 B.zip (c5 (al6 bg3 (pv 0) (W1 j4) ce5) (c5 (pv 1) c6))) (fun _ _ _ _ _=>di6 K (n:=2) rfl (E6 (o7 (i:=0) X8 rfl (Or.inl rfl)) (E6 (o7 (i:=1) X8 rfl (Or.inl rfl)) Y4))) (fun _ _ _ _ _=>B7) (fun _ _ _ _ _=>(i7 zcy yqy (c5 (pv 0) (c5 (pv 1) c6))))) c6))))),?_⟩
   obtain ⟨fd1,ln,ns,ls,fit⟩:=ro;obtain ⟨kvs,b,tk,hb,st⟩:=TK.at_ fd1
   have cut:ad7 ((wd::args).map V.str) (some 1) none=args.map V.str:=by
     rw[show (some (1:Int))=some ((1:Nat):Int) from rfl,bs7 _ 1 (by simp)];rfl
   refine ⟨⟨zxy,kvs,rfl,tk⟩,_,rfl,l,_,_,_,rfl,rfl,i5.of hl,o9 (j:=0) rfl,zxy,kvs,wd,rfl,rfl,tk,?_⟩;rw[hb];refine ⟨_,rfl,rfl,_,rfl,?_⟩;rw[decide_eq_false (fun z=>by cases z)];refine n9 ⟨_,rfl,l,_,rfl,.inl (i5.of hl),_,rfl,b,_,rfl,.inr (st.sq _),_,_,rfl,rfl,rfl,_,rfl,?_⟩;rw[decide_eq_true (by simp [ln])];refine n9 ⟨_,rfl,_,rfl,l,_,rfl,i5.of hl,fun sl hsl=> ?_⟩;rw[cut];obtain ⟨H1,e1⟩:∃Hn,Hn=i8 H sl (.lst (args.map V.str)):=⟨_,rfl⟩
   have s1:e8 H H1:=by rw[e1];exact e8.upd_new hsl
   have h1:H1 sl=some (.lst (args.map V.str)):=by rw[e1];exact c9
   rw[<-e1];refine ⟨_,rfl,sl,b,_,_,rfl,h1,st,cw8 (n:=args.length) (fun i zs σ H2=>zs=(ed1 i true).map V.bl/\(∃v0 v1:Option V,σ=[v0,v1])/\e8 H1 H2) ⟨rfl,⟨none,none,rfl⟩,fun _ _ z=>z⟩ (by rw[eb8,ln]) (fun i zs σ H2 _ ⟨_,_,s2⟩=>⟨_,s2 _ _ h1,by rw[eb8]⟩) ?_ ?_⟩
   · rintro i x y zs σ H2 t xs hi hx ex ey ⟨rfl,⟨v0,v1,rfl⟩,s2⟩ ht;rw[s2 _ _ h1] at hx;cases hx;rw[ec1] at ex ey;obtain ⟨x,hx,rfl⟩:=ei7.mp ex;obtain ⟨y,hy,rfl⟩:=ei7.mp ey;have s3:e8 H2 (i8 H2 t (.tup [.str x,.str y])):=e8.upd_new ht;refine ⟨t,_,rfl,M6.of c9,rfl,_,_,rfl,_,_,rfl,rfl,?_⟩;refine ⟨_,rfl,_,rfl,x,y,rfl,ee0 (ls x (ec4 hx)) (by decide),ns y (ec4 hy),fun H4 s4=>⟨?_,?_,⟨_,_,rfl⟩,s2.trans (s3.trans s4)⟩⟩
     · rw[eb8,ei3];have:ys.length<=4:=be8 fd1;exact p9 (by omega)
     · rw[fit i x y hx hy,List.replicate_succ',ec3];rfl
   · rintro zs σ H2 ⟨rfl,_,s2⟩ D hD;refine ⟨D,_,rfl,i5.of c9,?_⟩
     have:(ed1 args.length true).all id=true:=by simp
     rw[this];exact q _ (s1.trans (s2.trans (e8.upd_new hD)))
def ah4:Sp:=fun vs H Q _=>∃(row wd:Str) (args ys:List Str),vs=[.str row]/\M1 row (wd::args)/\ac5 wd args ys/\∀l H',H l=none->e8 H H'->H' l=some (.lst ((wd::args).map V.str))->Q (.ref l) H'
theorem ax3:m9 ["row","words"] ["row"] (j6 an4):=by rfl'
theorem cc8 {f:Addr}{fd:FuncData}(F:x6 K "read_row" "read_row" an4 f fd)(B:Bl mg)(yzx:m8 P w K mg base "part_row" 1 ["row"] by6)(yvy:m8 P w K mg base "is_row" 4 ["words"] bj3):n5 P w K mg base y7 5 f fd ["row"] ah4:=by
 refine F.ok ax3 (fun vs H Q E h=> ?_) (fun cdv A outer s H vs Q E hr h=> ?_)
 · obtain ⟨row,wd,args,ys,rfl,rw_,ro,q⟩:=h;rfl
 · obtain ⟨row,wd,args,ys,rfl,rw_,ro,q⟩:=h;have ynx:m7 1 _:=hr.mono (by decide);have hr_is_row:m7 4 _:=hr.mono (by decide)
   refine ⟨_,c7 (o6 (K5 (G8 (aa6 B.isi (c5 (pv 0) (c5 (ay8 B.str) c6))))) (c8 J6) k7)
     (c7 (m6 (i:=1) ax3.nd rfl (Or.inl rfl) (i7 yzx ynx (c5 (pv 0) c6)))
     (c7 (o6 (K5 (G8 (i7 yvy hr_is_row (c5 (pv 1) c6)))) (c8 J6) k7)
     (c8 (j5 (pv 1))))),?_⟩
   refine ⟨_,rfl,_,"str",_,true,rfl,.str _,Q6 K "str",true,rfl,?_⟩;refine n9 ⟨_,rfl,row,wd::args,rfl,rw_,fun l H1 hl s1 h1=> ?_⟩;refine ⟨_,rfl,l,wd,args,ys,rfl,h1,ro,fun H2 s2=>⟨_,rfl,?_⟩⟩;exact n9 ⟨_,rfl,q l H2 hl (s1.trans s2) (s2 _ _ h1)⟩
def G0 (C:Addr)(H:Hp)(d kd:Addr)(es:List (x5×V)):Prop:=∃dx,H d=some (.ins C dx [("kept",.ref kd)])/\H dx=some (.own d)/\H kd=some (.dK es)
theorem G0.keep {C:Addr}{H H':Hp}{d kd:Addr}{es:List (x5×V)}(h:G0 C H d kd es)(s:e8 H H'):G0 C H' d kd es:=by
 obtain ⟨dx,h1,h2,h3⟩:=h;exact ⟨dx,s _ _ h1,s _ _ h2,s _ _ h3⟩
def by7 (C:Addr):Sp:=fun vs H Q _=>∃(x dx:Addr),vs=[.ref x]/\H x=some (.ins C dx [])/\H dx=some (.own x)/\∀kd H',H kd=none->o5 x H H'->G0 C H' x kd []->Q .non H'
theorem by8:m9 ["self"] ["self"] (j6 aj1):=by rfl'
theorem by9 {f:Addr}{fd:FuncData}(F:x6 K "__init__" "Desk.__init__" aj1 f fd)(DF:av7 K zzy):n5 P w K mg base y7 1 f fd ["self"] (by7 zzy):=by
 refine F.ok by8 (fun vs H Q E h=> ?_) (fun cdv A outer s H vs Q E hr h=> ?_)
 · obtain ⟨x,dx,rfl,hx,hdx,q⟩:=h;rfl
 · obtain ⟨x,dx,rfl,hx,hdx,q⟩:=h;refine ⟨_,c8 (do2 (pv 0) al9 rfl),?_⟩
   refine fun kd hk=>⟨_,rfl,x,zzy,dx,[],rfl,by rw[i6 (i4 hx hk)];exact hx,DF.cl,DF.nk,by decide,?_⟩
   have nk:kd≠x:=(i4 hx hk).symm
   have nd:dx≠x:=fun z=>by rw[z,hx] at hdx;cases hdx
   refine q kd _ hk (fun b o hb nb=>by rw[i6 nb];exact e8.upd_new hk _ _ hb) ⟨dx,c9,?_,?_⟩
   · rw[i6 nd,i6 (i4 hdx hk)];exact hdx
   · rw[i6 nk];exact c9
def bz0 (C:Addr):Sp:=fun vs H Q _=>∃(d kd:Addr) (es:List (x5×V)) (x:Str) (v:V),vs=[.ref d,.str x]/\G0 C H d kd es/\B8 es (Sum.inr x)=some v/\Q v H
theorem be9:m9 ["self","name"] ["self","name"] (j6 Z4):=by rfl'
theorem bf0 {f:Addr}{fd:FuncData}(F:x6 K "look_up" "Desk.look_up" Z4 f fd)(DF:av7 K zzy):n5 P w K mg base y7 1 f fd ["self","name"] (bz0 zzy):=by
 refine F.ok be9 (fun vs H Q E h=> ?_) (fun cdv A outer s H vs Q E hr h=> ?_)
 · obtain ⟨d,kd,es,x,v,rfl,D0,hv,q⟩:=h;rfl
 · obtain ⟨d,kd,es,x,v,rfl,D0,hv,q⟩:=h;have hu:=O1 hr
   refine ⟨_,c7 (o6 (bq7 (bl5 hu (pv 1) (bb5 (pv 0) rfl))) (c8 J6) k7)
     (c8 (j5 (au6 hu (bb5 (pv 0) rfl) (pv 1) (fun _ _=>rfl)))),?_⟩
   obtain ⟨dx,h1,h2,h3⟩:=D0;refine ⟨_,rfl,_,rfl,d,zzy,dx,_,_,rfl,h1,DF.cl,DF.nk,rfl,kd,_,rfl,Y6.k (k:=Sum.inr x) h3,_,rfl,?_⟩;rw[hv];refine n9 ⟨_,rfl,d,zzy,dx,_,_,rfl,h1,DF.cl,DF.nk,rfl,_,rfl,kd,v,rfl,?_,q⟩;rw[<-hv];exact Y6.k (k:=Sum.inr x) h3
def J5 (es:List (x5×V))(x y:Str):List V:=if y="name" then [(B8 es (Sum.inr x)).getD .non] else if y="text" then [.str x] else if y="into" then [] else [.int ((PySem.intText? x).getD 0)]
def X9 (es:List (x5×V))(args ys:List Str):List V:=((args.zip ys).map fun p=>J5 es p.1 p.2).flatten
def af9 (es:List (x5×V))(args ys:List Str):Prop:=∀(i:Nat) (x y:Str),args[i]? =some x->ys[i]? =some y->(y="name"->(B8 es (Sum.inr x)).isSome=true)/\(y≠"name"->y≠"text"->y≠"into"->(PySem.intText? x).isSome=true/\x.length<=640)
theorem bz1 (es:List (x5×V)):∀l:List (Str×Str),((l.map fun p=>J5 es p.1 p.2).flatten).length<=l.length
 |[]=>ec6 _
 |p::l=>by
  have ih:=bz1 es l
  have h1:(J5 es p.1 p.2).length<=1:=by
    unfold J5
    split
    · exact ec6 _
    · split
      · exact ec6 _
      · split
        · exact ee2 _
        · exact ec6 _
  rw[eg2,ee8,ec2,ef6];omega
def bf1 (C:Addr):Sp:=fun vs H Q _=>∃(d kd l:Addr) (es:List (x5×V)) (wd:Str) (args ys:List Str),vs=[.ref d,.ref l]/\G0 C H d kd es/\H l=some (.lst ((wd::args).map V.str))/\ac5 wd args ys/\af9 es args ys/\∀m H',H m=none->e8 H H'->H' m=some (.lst (X9 es args ys))->Q (.ref m) H'
theorem N7:m9 ["self","words","handed","word","place"] ["self","words"] (j6 V7):=by rfl'
theorem aw2 {f:Addr}{fd:FuncData}(F:x6 K "hand_over" "Desk.hand_over" V7 f fd)(B:Bl mg)(zgz:ao5 P w K mg base zzy "look_up" 1 ["self","name"] (bz0 zzy))(ztx:mg "PLACES"=some (.ref zxy))(TK:W6 K w zxy):n5 P w K mg base y7 2 f fd ["self","words"] (bf1 zzy):=by
 refine F.ok N7 (fun vs H Q E h=> ?_) (fun cdv A outer s H vs Q E hr h=> ?_)
 · obtain ⟨d,kd,l,es,wd,args,ys,rfl,D0,hl,ro,ho,q⟩:=h;rfl
 · obtain ⟨d,kd,l,es,wd,args,ys,rfl,D0,hl,ro,ho,q⟩:=h;have yu:m7 1 _:=hr.mono (by decide)
   refine ⟨_,c7 (m6 (i:=2) N7.nd rfl (Or.inl rfl) (A6 c6))
     (c7 (A7 PassesOwn.never rfl (ch7 B.zip (c5 (al6 bg3 (pv 1) (W1 j4) ce5) (c5 (bx8 (B3 (v:= .ref zxy) (by rfl) ztx rfl) (p8 o0 (pv 1) j4 (fun _ _=>rfl)) (fun _ _=>rfl)) c6))) (ad1 rfl (E6 (o7 (i:=3) N7.nd rfl (Or.inl rfl)) (E6 (o7 (i:=4) N7.nd rfl (Or.inl rfl)) Y4)))
       (c8 (o6 (j9 y8 (pv 4) j7 (j8 _)) (c8 (x8 (C6 (pv 2) (c5 (S9 zgz yu (pv 0) (c5 (pv 3) c6)) c6)))) (c8 (o6 (j9 y8 (pv 4) j7 (j8 _)) (c8 (x8 (C6 (pv 2) (c5 (pv 3) c6)))) (c8 (o6 (j9 J3 (pv 4) j7 (j8 _)) (c8 (x8 (C6 (pv 2) (c5 (dl4 B.int (c5 (pv 3) c6)) c6)))) k7)))))))
     (c8 (j5 (pv 2)))),?_⟩
   obtain ⟨fd1,ln,ns,ls,fit⟩:=ro;obtain ⟨kvs,b,tk,hb,st⟩:=TK.at_ fd1
   have cut:ad7 ((wd::args).map V.str) (some 1) none=args.map V.str:=by
     rw[show (some (1:Int))=some ((1:Nat):Int) from rfl,bs7 _ 1 (by simp)];rfl
   refine ⟨ee2 _,fun m hm=> ?_⟩;obtain ⟨H1,e1⟩:∃Hn,Hn=i8 H m (.lst []):=⟨_,rfl⟩
   have s1:e8 H H1:=by rw[e1];exact e8.upd_new hm
   have h1:H1 m=some (.lst []):=by rw[e1];exact c9
   rw[<-e1];refine ⟨_,rfl,_,rfl,l,_,rfl,i5.of (s1 _ _ hl),fun sl hsl=> ?_⟩;rw[cut];obtain ⟨H2,e2⟩:∃Hn,Hn=i8 H1 sl (.lst (args.map V.str)):=⟨_,rfl⟩
   have s2:e8 H1 H2:=by rw[e2];exact e8.upd_new hsl
   have h2:H2 sl=some (.lst (args.map V.str)):=by rw[e2];exact c9
   rw[<-e2];have s12:=s1.trans s2;have nm:sl≠m:=i4 h1 hsl|>.symm;refine ⟨_,rfl,l,_,_,_,rfl,rfl,i5.of (s12 _ _ hl),o9 (j:=0) rfl,zxy,kvs,wd,b,rfl,rfl,tk,hb,?_⟩;have D2:=D0.keep s12;obtain ⟨dx,d1,d2,d3⟩:=D2
   have nd:d≠m:=fun z=>by rw[z,s2 _ _ h1] at d1;cases d1
   have ndx:dx≠m:=fun z=>by rw[z,s2 _ _ h1] at d2;cases d2
   have nkd:kd≠m:=fun z=>by rw[z,s2 _ _ h1] at d3;cases d3
   refine ⟨sl,b,_,_,rfl,h2,st,dd4 (n:=args.length) (fun i σ H3=>(∃v3 v4:Option V,σ=[some (.ref d),some (.ref l),some (.ref m),v3,v4])/\H3 m=some (.lst ((((args.zip ys).take i).map fun p=>J5 es p.1 p.2).flatten))/\o5 m H2 H3) ⟨⟨none,none,rfl⟩,s2 _ _ h1,o5.refl _ _⟩ (by rw[eb8,ln]) (fun i σ H3 _ ⟨_,_,kb⟩=>⟨_,kb _ _ h2 nm,by rw[eb8]⟩) ?_ ?_⟩
   · rintro i x y σ H3 t xs hi hx ex ey ⟨⟨v3,v4,rfl⟩,h3m,kb⟩ ht;rw[kb _ _ h2 nm] at hx;cases hx;rw[ec1] at ex ey;obtain ⟨x,hx,rfl⟩:=ei7.mp ex;obtain ⟨y,hy,rfl⟩:=ei7.mp ey;obtain ⟨H4,e4⟩:∃Hn,Hn=i8 H3 t (.tup [.str x,.str y]):=⟨_,rfl⟩
     have s4:e8 H3 H4:=by rw[e4];exact e8.upd_new ht
     have h4t:H4 t=some (.tup [.str x,.str y]):=by rw[e4];exact c9
     rw[<-e4];have zi:(args.zip ys)[i]? =some (x,y):=List.getElem?_zip_eq_some.mpr ⟨hx,hy⟩
     have tk1:(((args.zip ys).take (i+1)).map fun p=>J5 es p.1 p.2).flatten=(((args.zip ys).take i).map fun p=>J5 es p.1 p.2).flatten++J5 es x y:=by
       rw[es3,zi,ec3,eg3];simp
     have lt4:((((args.zip ys).take i).map fun p=>J5 es p.1 p.2).flatten).length<=1000:=by
       refine ee0 (bz1 es _) ?_;rw[ed3,List.length_zip];have:=be8 fd1;omega
     have lt5:=p9 lt4;have D4:G0 zzy H4 d kd es:=⟨dx,s4 _ _ (kb _ _ d1 nd),s4 _ _ (kb _ _ d2 ndx),s4 _ _ (kb _ _ d3 nkd)⟩;have h4m:=s4 _ _ h3m;obtain ⟨ho1,ho2⟩:=ho i x y hx hy
     have fin:∀(v:V),J5 es x y=[v]->∀H5,H5=i8 H4 m (.lst (((((args.zip ys).take i).map fun p=>J5 es p.1 p.2).flatten)++[v]))->H5 m=some (.lst ((((args.zip ys).take (i+1)).map fun p=>J5 es p.1 p.2).flatten))/\o5 m H2 H5:=fun v hv H5 e5=>by
       rw[e5,tk1,hv];exact ⟨c9,fun b o hb nb=>by rw[i6 nb];exact s4 _ _ (kb b o hb nb)⟩
     refine ⟨t,_,rfl,M6.of h4t,rfl,_,_,rfl,_,_,rfl,rfl,_,rfl,rfl,_,rfl,?_⟩
     by_cases c1:y="name"
     · subst c1;obtain ⟨v,hv⟩:=el6.mp (ho1 rfl);refine A8 ⟨_,rfl,.inl ⟨rfl,_,i5.of h4m⟩,_,rfl,d,dx,_,rfl,s4 _ _ (kb _ _ d1 nd),rfl,_,rfl,d,kd,es,x,v,rfl,D4,hv,m,_,_,rfl,rfl,h4m,lt5,⟨_,_,rfl⟩,fin v ?_ _ rfl⟩;unfold J5;rw[if_pos rfl,hv];rfl
     · rw[decide_eq_false (fun z=>c1 (V.str.inj z))];refine n9 ⟨_,rfl,rfl,_,rfl,?_⟩
       by_cases c2:y="text"
       · subst c2;refine A8 ⟨_,rfl,.inl ⟨rfl,_,i5.of h4m⟩,_,rfl,m,_,_,rfl,rfl,h4m,lt5,⟨_,_,rfl⟩,fin (.str x) ?_ _ rfl⟩;unfold J5;rw[if_neg c1,if_pos rfl]
       · rw[decide_eq_false (fun z=>c2 (V.str.inj z))];refine n9 ⟨_,rfl,rfl,_,rfl,?_⟩
         by_cases c3:y="into"
         · subst c3;refine n9 ⟨⟨_,_,rfl⟩,?_,fun b o hb nb=>s4 _ _ (kb b o hb nb)⟩;rw[tk1,h4m];unfold J5;rw[if_neg c1,if_neg c2,if_pos rfl,ef4]
         · rw[decide_eq_false (fun z=>c3 (V.str.inj z))];obtain ⟨hn,l6⟩:=ho2 c1 c2 c3;obtain ⟨n,hn⟩:=el6.mp hn;refine A8 ⟨_,rfl,.inl ⟨rfl,_,i5.of h4m⟩,_,rfl,x,n,rfl,hn,l6,m,_,_,rfl,rfl,h4m,lt5,⟨_,_,rfl⟩,fin (.int n) ?_ _ rfl⟩;unfold J5;rw[if_neg c1,if_neg c2,if_neg c3,hn];rfl
   · rintro σ H3 ⟨⟨v3,v4,rfl⟩,h3m,kb⟩;refine ⟨_,rfl,q m H3 hm (fun b o hb=>kb _ _ (s12 _ _ hb) (i4 hb hm)) ?_⟩;rw[eh3 (by rw[List.length_zip,<-ln];omega)] at h3m;exact h3m
end
end My
namespace My
open PySem L2 Mth
section
variable {P:Program} {w:World} {K:PySem.W.Frag} {mg:Str->Option Value} {base:Heap} {zxy zzy:Addr} {zvy zyx zzx zy zyz zxx zzz zx zw zwz zv:Addr}
theorem dv8:∀l,l < 41->1<=l->l∣5342931457063200:=by decide+kernel
theorem av8 {p:List Int}{h:Nat}(tp:A1 p)(lp:p.length<=40)(x:Q7 p h):h<=5342931457063200:=by
 refine ej1 (by decide) (x.least _ fun y hy=> ?_);obtain ⟨r,hr,hyr⟩:=bg9 tp hy;rw[aj9 tp (C1 tp) r hr y hyr];have f:=(O7 tp lp (C1 tp)).2 r hr;exact dv8 _ (by omega) (List.length_pos_iff.mpr f.1)
theorem ba5 {i:Int}(h0:0<=i)(h1:i<=5342931457063200):i.natAbs.log2 < 1920:=by
 by_cases z:i.natAbs=0
 · rw[z,Nat.log2_zero];omega
 · refine (Nat.log2_lt z).mpr (ee9 (m:=2^60) (by omega) (Nat.pow_le_pow_right (by decide) (by omega)))
theorem ad0 {i:Int}(h0:0<=i)(h1:i < 1000000000):(q9 i).length<=9:=by
 obtain ⟨k,rfl⟩:=ef0 h0;have e:=PySem.W.KIN.signs_num k
 have l:(q9 ((k:Nat):Int)).cps.toList.length=((ep5 10 k).map Char.toNat).length:=by rw[<-e];rfl
 rw[eb8] at l;have:=PyProof.Rows.digits10_le (k:=9) (n:=k) (by decide) (by omega);show (q9 ((k:Nat):Int)).cps.toList.length<=9;omega
def ak9 (ns:List Int):Str:=if ns=[] then "none" else Txt.join " " (ns.map q9)
def Z6:Sp:=fun vs H Q _=>∃(a:Addr) (ns:List Int),vs=[.ref a]/\H a=some (.lst (ns.map V.int))/\ns.length<=1000/\(∀x∈ns,0<=x/\x < 1000000000)/\∀H',e8 H H'->Q (.str (ak9 ns)) H'
theorem bj4:m9 ["things"] ["things"] (j6 ab6):=by rfl'
theorem ap0:(["thing"]:List Str).Nodup:=by decide+kernel
theorem bj5 {f:Addr}{fd:FuncData}(F:x6 K "with_blanks" "with_blanks" ab6 f fd)(B:Bl mg):n5 P w K mg base y7 1 f fd ["things"] Z6:=by
 refine F.ok bj4 (fun vs H Q E h=> ?_) (fun cdv A outer s H vs Q E hr h=> ?_)
 · obtain ⟨a,ns,rfl,ha,ln,bd,q⟩:=h;rfl
 · obtain ⟨a,ns,rfl,ha,ln,bd,q⟩:=h
   refine ⟨_,c7 (o6 (j9 y8 (x9 B.len (c5 (pv 0) c6)) j4 (j8 _)) (c8 (j5 j7)) k7)
     (c8 (j5 (ak1 j7 (c5 (G9 (N:=["thing"]) (nl:=1) (fr:=[]) rfl .of (A0 (pv 0)) (fun _ _ _ _ _=>o7 (i:=0) ap0 rfl (Or.inl rfl)) (fun _ _ _ _ _=>B7) (fun _ _ _ _ _=>(K4 B.str (c5 (pv 0) c6)))) c6)))),?_⟩
   refine ⟨_,rfl,a,_,rfl,.inl (i5.of ha),rfl,_,rfl,?_⟩;unfold ak9 at q
   by_cases c:ns=[]
   · subst c;exact A8 (q _ fun _ _ z=>z)
   · rw[if_neg c] at q
     rw[decide_eq_false (fun z=>c (by
       have:=V.int.inj z;rw[eb8] at this
       exact eh7.mp (by omega)))]
     refine n9 ⟨rfl,?_⟩;refine ⟨_,rfl,a,rfl,⟨_,i5.of ha⟩,C0 (K:=K) (a:=a) (xs:=ns.map V.int) (fun i ys σ H1=>∃v:Option V,σ=[v]/\H1=H/\ys=((ns.take i).map q9).map V.str) ⟨none,rfl,rfl,rfl⟩ (fun i ys σ H1 _ zz=>by obtain ⟨_,_,e,_⟩:=zz;rw[e];exact i5.of ha) ?_ ?_⟩
     · rintro i x ys σ H1 hi ⟨v,rfl,rfl,rfl⟩;obtain ⟨z,hz,rfl⟩:=y9 hi;have zb:=bd z (ec4 hz);refine ⟨_,rfl,z,rfl,ba5 zb.1 (by omega),p9 (by simp only[eb8,ed3];omega),_,rfl,rfl,?_⟩;rw[n6 hz,ec3,ec3];rfl
     · rintro ys σ H1 ⟨v,rfl,rfl,rfl⟩ D hD;rw[eb8,ee1];refine ⟨" ",D,ns.map q9,rfl,rfl,i5.of c9,ab0 (B:=9) (fun y hy=> ?_) ?_,q _ (e8.upd_new hD)⟩
       · obtain ⟨i,hi,rfl⟩:=ee3.mp hy;exact ad0 (bd i hi).1 (bd i hi).2
       · have sl:(Str.ofString " ").length=1:=by decide+kernel
         rw[eb8,sl];omega
def bj6 (b:Bool):Str:=if b=true then "yes" else "no"
def bq5:Sp:=fun vs H Q _=>∃(b:Bool),vs=[.bl b]/\Q (.str (bj6 b)) H
theorem bz2:m9 ["truth"] ["truth"] (j6 ai9):=by rfl'
theorem bz3 {f:Addr}{fd:FuncData}(F:x6 K "yes_or_no" "yes_or_no" ai9 f fd):n5 P w K mg base y7 1 f fd ["truth"] bq5:=by
 refine F.ok bz2 (fun vs H Q E h=> ?_) (fun cdv A outer s H vs Q E hr h=> ?_)
 · obtain ⟨b,rfl,q⟩:=h;rfl
 · obtain ⟨b,rfl,q⟩:=h;refine ⟨_,c8 (j5 (cy4 (G8 (pv 0)) j7 j7)),?_⟩;refine ⟨_,rfl,_,rfl,?_⟩
   cases b with
   |true=>exact A8 q
   |false=>exact n9 q
def av9 (p:List Int)(m:Nat)(x:Str):Prop:=(x="none"/\∃l d:Nat,bu1 (Z5 p) m l d)\/∃(h:Nat) (r:List Int),x=q9 (h:Int)/\A1 r/\r.length=p.length/\N6 r (m:Int) p/\ae2 p m r/\Q7 r h
def Y0:Sp:=fun vs H Q _=>∃(a:Addr) (p:List Int) (m:Nat),vs=[.ref a,.int (m:Int)]/\r9 H a p/\p.length<=16/\1<=m/\m<=1000000000000000000000000000000/\∀x H',av9 p m x->e8 H H'->Q (.str x) H'
theorem P9:m9 ["p","m","told"] ["p","m"] (j6 S7):=by rfl'
theorem ah5 {f:Addr}{fd:FuncData}(F:x6 K "show_soonest" "show_soonest" S7 f fd)(B:Bl mg)(zuz:m8 P w K mg base "soonest_root" 7 ["p","m"] ak4):n5 P w K mg base y7 8 f fd ["p","m"] Y0:=by
 refine F.ok P9 (fun vs H Q E h=> ?_) (fun cdv A outer s H vs Q E hr h=> ?_)
 · obtain ⟨a,p,m,rfl,ta,l16,m1,m2,q⟩:=h;rfl
 · obtain ⟨a,p,m,rfl,ta,l16,m1,m2,q⟩:=h;have zpy:m7 7 _:=hr.mono (by decide)
   refine ⟨_,c7 (m6 (i:=2) P9.nd rfl (Or.inl rfl) (i7 zuz zpy (c5 (pv 0) (c5 (pv 1) c6))))
     (c7 (o6 (j9 bb3 (pv 2) O4 (j8 _)) (c8 (j5 j7)) k7)
     (c8 (j5 (K4 B.str (c5 (p8 U2 (pv 2) j4 (fun _ _=>rfl)) c6))))),?_⟩
   refine ⟨_,rfl,_,rfl,a,p,m,rfl,ta,l16,m1,m2,fun v H1 s1 T1 fo=> ?_⟩;refine ⟨_,rfl,rfl,_,rfl,?_⟩
   rcases T1 with ⟨rfl,l,d,b⟩|⟨t,o,h,r,rfl,h1,h2,tr,lr,pw,ro,hh⟩
   · exact A8 (q _ H1 (.inl ⟨rfl,l,d,b⟩) s1)
   · rw[decide_eq_false (fun z=>by cases z)];refine n9 ⟨_,rfl,t,_,_,_,rfl,rfl,M6.of h1,o9 (j:=0) rfl,_,rfl,?_,?_⟩
     · have:=av8 tr (by rw[lr];omega) hh;exact ba5 (by omega) (by omega)
     · exact q _ H1 (.inr ⟨h,r,rfl,tr,lr,pw,ro,hh⟩) s1
theorem ba6 {f:Addr}{fd:FuncData}(F:x6 K "show_soonest" "show_soonest" S7 f fd)(zuz:Q8 P w K mg base "soonest_root" 7 ["p","m"] (fun vs H Q E=>ak4 vs H Q E\/(ac9 zzz) vs H Q E)):n5 P w K mg base (W2 P w) 8 f fd ["p","m"] (ac9 zzz):=by
 refine F.okx P9 (fun vs H Q E h=> ?_) (fun cdv A outer s H vs Q E hr h=> ?_)
 · obtain ⟨a,p,n,rfl,tp,l17,n1,n2,k⟩:=h;rfl
 · obtain ⟨a,p,n,rfl,tp,l17,n1,n2,k⟩:=h;have zpy:m7 7 _:=hr.mono (by decide)
   refine ⟨_,c7 (m6 (i:=2) P9.nd rfl (Or.inl rfl) (S5 zuz zpy (N2 fun _ _ _ h=>h) (c5 (pv 0) (c5 (pv 1) c6))))
     ag5,?_⟩
   exact ⟨_,rfl,_,rfl,.inr ⟨a,p,n,rfl,tp,l17,n1,n2,k⟩⟩
def bf2:Sp:=fun vs H Q _=>∃(a:Addr) (p:List Int),vs=[.str "turn",.ref a]/\H a=some (.lst [.str (K1 p)])/\A1 p/\p.length<=40/\∀l H',H l=none->e8 H H'->H' l=some (.lst (p.map V.int))->Q (.ref l) H'
theorem bz4:m9 ["word","handed"] ["word","handed"] (j6 aj0):=by rfl'
theorem bz5 {f:Addr}{fd:FuncData}(F:x6 K "make_turn" "make_turn" aj0 f fd)(zay:m8 P w K mg base "read_turn" 6 ["text"] bw7):n5 P w K mg base y7 7 f fd ["word","handed"] bf2:=by
 refine F.ok bz4 (fun vs H Q E h=> ?_) (fun cdv A outer s H vs Q E hr h=> ?_)
 · obtain ⟨a,p,rfl,ha,tp,lp,q⟩:=h;rfl
 · obtain ⟨a,p,rfl,ha,tp,lp,q⟩:=h;have yox:m7 6 _:=hr.mono (by decide)
   refine ⟨_,c7 (o6 (j9 y8 (pv 0) j7 (j8 _)) (c8 (j5 (i7 zay yox (c5 (p8 o0 (pv 1) j4 (fun _ _=>rfl)) c6)))) k7)
     (c7 (o6 (j9 y8 (pv 0) j7 (j8 _)) (c8 (j5 E8)) k7)
     (c7 (o6 (j9 y8 (pv 0) j7 (j8 _)) (c8 (j5 E8)) k7)
     (c7 (o6 (j9 y8 (pv 0) j7 (j8 _)) (c8 (j5 E8)) k7)
     (c7 (o6 (j9 y8 (pv 0) j7 (j8 _)) (c8 (j5 E8)) k7)
     (c8 (j5 E8)))))),?_⟩
   exact ⟨_,rfl,rfl,_,rfl,A8 ⟨_,rfl,a,_,_,_,rfl,rfl,i5.of ha,o9 (j:=0) rfl,p,rfl,tp,lp,q⟩⟩
def aa0 (wd:Str)(hs:List V)(H:Hp)(Q:VK):Prop:=
 (∃a p,wd="show"/\hs=[.ref a]/\r9 H a p/\∀H',e8 H H'->Q (.str (K1 p)) H')\/
 (∃a p,wd="kind"/\hs=[.ref a]/\r9 H a p/\∀ns H',e8 H H'->ns.Perm (C9 p)->ns.Pairwise (fun x y=>y<=x)->Q (.str (ak9 ns)) H')\/
 (∃a p,wd="home"/\hs=[.ref a]/\r9 H a p/\∀(h:Nat) H',e8 H H'->Q7 p h->Q (.str (q9 (h:Int))) H')\/
 (∃a p,∃m:Nat,wd="soonest"/\hs=[.ref a,.int (m:Int)]/\r9 H a p/\p.length<=16/\1<=m/\m<=1000000000000000000000000000000/\∀x H',av9 p m x->e8 H H'->Q (.str x) H')\/
 (∃a p b q,wd="past"/\hs=[.ref a,.ref b]/\r9 H a p/\r9 H b q/\p.length=q.length/\∀H',e8 H H'->Q (.str (bj6 (decide (B4 p q=B4 q p)))) H')\/
 (∃a p b q,wd="alike"/\hs=[.ref a,.ref b]/\r9 H a p/\r9 H b q/\p.length=q.length/\∀H',e8 H H'->Q (.str (bj6 (decide ((C9 p).Perm (C9 q))))) H')
def bf3:Sp:=fun vs H Q _=>∃(wd:Str) (a:Addr) (hs:List V),vs=[.str wd,.ref a]/\H a=some (.lst hs)/\aa0 wd hs H Q
theorem aq2:m9 ["word","handed"] ["word","handed"] (j6 X4):=by rfl'
theorem aq3 {f:Addr}{fd:FuncData}(F:x6 K "answer_row" "answer_row" X4 f fd)(B:Bl mg)(ztz:m8 P w K mg base "show_turn" 5 ["p"] ab1)(zwy:m8 P w K mg base "with_blanks" 1 ["things"] Z6)(zt:m8 P w K mg base "kind_of" 5 ["p"] R4)(zry:m8 P w K mg base "home_of" 6 ["p"] bh7)(zqx:m8 P w K mg base "show_soonest" 8 ["p","m"] Y0)(zsx:m8 P w K mg base "yes_or_no" 1 ["truth"] bq5)(ziy:m8 P w K mg base "go_past" 5 ["p","q"] bx4)(znz:m8 P w K mg base "named_anew" 6 ["p","q"] ak7):n5 P w K mg base y7 9 f fd ["word","handed"] bf3:=by
 refine F.ok aq2 (fun vs H Q E h=> ?_) (fun cdv A outer s H vs Q E hr h=> ?_)
 · obtain ⟨wd,l,hs,rfl,hl,h⟩:=h;rfl
 · obtain ⟨wd,l,hs,rfl,hl,h⟩:=h;have zly:m7 5 _:=hr.mono (by decide);have zsz:m7 1 _:=hr.mono (by decide);have zkz:m7 5 _:=hr.mono (by decide);have zix:m7 6 _:=hr.mono (by decide);have zh:m7 8 _:=hr.mono (by decide);have zlx:m7 1 _:=hr.mono (by decide);have yy:m7 5 _:=hr.mono (by decide);have zez:m7 6 _:=hr.mono (by decide)
   refine ⟨_,c7 (o6 (j9 y8 (pv 0) j7 (j8 _)) (c8 (j5 (i7 ztz zly (c5 (p8 o0 (pv 1) j4 (fun _ _=>rfl)) c6)))) k7)
     (c7 (o6 (j9 y8 (pv 0) j7 (j8 _)) (c8 (j5 (i7 zwy zsz (c5 (i7 zt zkz (c5 (p8 o0 (pv 1) j4 (fun _ _=>rfl)) c6)) c6)))) k7)
     (c7 (o6 (j9 y8 (pv 0) j7 (j8 _)) (c8 (j5 (K4 B.str (c5 (i7 zry zix (c5 (p8 o0 (pv 1) j4 (fun _ _=>rfl)) c6)) c6)))) k7)
     (c7 (o6 (j9 y8 (pv 0) j7 (j8 _)) (c8 (j5 E8)) k7)
     (c7 (o6 (j9 y8 (pv 0) j7 (j8 _)) (c8 (j5 (K4 B.str (c5 E8 c6)))) k7)
     (c7 (o6 (j9 y8 (pv 0) j7 (j8 _)) (c8 (j5 (i7 zqx zh (c5 (p8 o0 (pv 1) j4 (fun _ _=>rfl)) (c5 (p8 o0 (pv 1) j4 (fun _ _=>rfl)) c6))))) k7)
     (c7 (o6 (j9 y8 (pv 0) j7 (j8 _)) (c8 (j5 (i7 zsx zlx (c5 (i7 ziy yy (c5 (p8 o0 (pv 1) j4 (fun _ _=>rfl)) (c5 (p8 o0 (pv 1) j4 (fun _ _=>rfl)) c6))) c6)))) k7)
     (c8 (j5 (i7 zsx zlx (c5 (G6 au2 (i7 znz zez (c5 (p8 o0 (pv 1) j4 (fun _ _=>rfl)) (c5 (p8 o0 (pv 1) j4 (fun _ _=>rfl)) c6))) O4 (j8 _)) c6)))))))))),?_⟩
   rcases h with ⟨a,p,rfl,rfl,tp,q⟩|⟨a,p,rfl,rfl,tp,q⟩|⟨a,p,rfl,rfl,tp,q⟩|⟨a,p,m,rfl,rfl,tp,l16,m1,m2,q⟩|⟨a,p,b,u,rfl,rfl,tp,tq,e,q⟩|⟨a,p,b,u,rfl,rfl,tp,tq,e,q⟩
   · exact ⟨_,rfl,rfl,_,rfl,A8 ⟨_,rfl,l,_,_,_,rfl,rfl,i5.of hl,o9 (j:=0) rfl,a,p,rfl,tp,q⟩⟩
   · refine ⟨_,rfl,rfl,_,rfl,n9 ⟨_,rfl,rfl,_,rfl,A8 ⟨_,rfl,l,_,_,_,rfl,rfl,i5.of hl,o9 (j:=0) rfl,a,p,rfl,tp,fun k ms H1 hk s1 pm pw bd lm h1=> ?_⟩⟩⟩;exact ⟨k,ms,rfl,h1,by omega,fun x hx=>by have:=bd x hx;omega,fun H2 s2=>q ms H2 (s1.trans s2) pm pw⟩
   · refine ⟨_,rfl,rfl,_,rfl,n9 ⟨_,rfl,rfl,_,rfl,n9 ⟨_,rfl,rfl,_,rfl,A8 ⟨_,rfl,l,_,_,_,rfl,rfl,i5.of hl,o9 (j:=0) rfl,a,p,rfl,tp,fun h H1 s1 hh=>⟨_,rfl,?_,q h H1 s1 hh⟩⟩⟩⟩⟩;have:=av8 tp.2.1 tp.2.2 hh;exact ba5 (by omega) (by omega)
   · refine ⟨_,rfl,rfl,_,rfl,n9 ⟨_,rfl,rfl,_,rfl,n9 ⟨_,rfl,rfl,_,rfl,n9 ⟨_,rfl,rfl,_,rfl,n9 ⟨_,rfl,rfl,_,rfl,n9 ⟨_,rfl,rfl,_,rfl,A8 ⟨_,rfl,l,_,_,_,rfl,rfl,i5.of hl,o9 (j:=0) rfl,?_⟩⟩⟩⟩⟩⟩⟩;exact ⟨_,rfl,l,_,_,_,rfl,rfl,i5.of hl,o9 (j:=1) rfl,a,p,m,rfl,tp,l16,m1,m2,q⟩
   · refine ⟨_,rfl,rfl,_,rfl,n9 ⟨_,rfl,rfl,_,rfl,n9 ⟨_,rfl,rfl,_,rfl,n9 ⟨_,rfl,rfl,_,rfl,n9 ⟨_,rfl,rfl,_,rfl,n9 ⟨_,rfl,rfl,_,rfl,n9 ⟨_,rfl,rfl,_,rfl,A8 ⟨_,rfl,l,_,_,_,rfl,rfl,i5.of hl,o9 (j:=0) rfl,?_⟩⟩⟩⟩⟩⟩⟩⟩;refine ⟨_,rfl,l,_,_,_,rfl,rfl,i5.of hl,o9 (j:=1) rfl,a,b,p,u,rfl,tp,tq,e,fun H1 s1=>⟨_,rfl,q H1 s1⟩⟩
   · refine ⟨_,rfl,rfl,_,rfl,n9 ⟨_,rfl,rfl,_,rfl,n9 ⟨_,rfl,rfl,_,rfl,n9 ⟨_,rfl,rfl,_,rfl,n9 ⟨_,rfl,rfl,_,rfl,n9 ⟨_,rfl,rfl,_,rfl,n9 ⟨_,rfl,rfl,_,rfl,n9 ⟨_,rfl,l,_,_,_,rfl,rfl,i5.of hl,o9 (j:=0) rfl,?_⟩⟩⟩⟩⟩⟩⟩⟩;refine ⟨_,rfl,l,_,_,_,rfl,rfl,i5.of hl,o9 (j:=1) rfl,a,b,p,u,rfl,tp,tq,e,fun np H1 s1=> ?_,fun pm o t H1 ho s1 h1 nm=> ?_⟩
     · refine ⟨rfl,_,rfl,?_⟩;have:=q H1 s1;rw[decide_eq_false np] at this;exact this
     · refine ⟨rfl,_,rfl,?_⟩;have:=q H1 s1;rw[decide_eq_true pm] at this;exact this
def ap1 (qf qm:Addr)(wd:Str)(hs:List V)(H:Hp)(E:XK):Prop:=
 (∃a p,∃m:Nat,wd="soonest"/\hs=[.ref a,.int (m:Int)]/\r9 H a p/\16 < p.length/\1<=m/\m<=1000000000000000000000000000000/\∀H',e8 H H'->E (.ref qm) none H')\/
 (∃a p b q,(wd="past"\/wd="alike")/\hs=[.ref a,.ref b]/\r9 H a p/\r9 H b q/\p.length≠q.length/\∀H',e8 H H'->E (.ref qf) none H')
def bz6 (qf qm:Addr):Sp:=fun vs H _ E=>∃(wd:Str) (a:Addr) (hs:List V),vs=[.str wd,.ref a]/\H a=some (.lst hs)/\ap1 qf qm wd hs H E
theorem bj7 {f:Addr}{fd:FuncData}(F:x6 K "answer_row" "answer_row" X4 f fd)(B:Bl mg)(ztz:m8 P w K mg base "show_turn" 5 ["p"] ab1)(zwy:m8 P w K mg base "with_blanks" 1 ["things"] Z6)(zt:m8 P w K mg base "kind_of" 5 ["p"] R4)(zry:m8 P w K mg base "home_of" 6 ["p"] aa8)(zqx:Q8 P w K mg base "show_soonest" 8 ["p","m"] (fun vs H Q E=>Y0 vs H Q E\/(ac9 zzz) vs H Q E))(zsx:m8 P w K mg base "yes_or_no" 1 ["truth"] bq5)(ziy:Q8 P w K mg base "go_past" 5 ["p","q"] (fun vs H Q E=>bx4 vs H Q E\/(X7 zzx) vs H Q E))(znz:Q8 P w K mg base "named_anew" 6 ["p","q"] (fun vs H Q E=>ak7 vs H Q E\/(X7 zzx) vs H Q E)):n5 P w K mg base (W2 P w) 9 f fd ["word","handed"] (bz6 zzx zzz):=by
 refine F.okx aq2 (fun vs H Q E h=> ?_) (fun cdv A outer s H vs Q E hr h=> ?_)
 · obtain ⟨wd,l,hs,rfl,hl,h⟩:=h;rfl
 · obtain ⟨wd,l,hs,rfl,hl,h⟩:=h;have zly:m7 5 _:=hr.mono (by decide);have zsz:m7 1 _:=hr.mono (by decide);have zkz:m7 5 _:=hr.mono (by decide);have zix:m7 6 _:=hr.mono (by decide);have zh:m7 8 _:=hr.mono (by decide);have zlx:m7 1 _:=hr.mono (by decide);have yy:m7 5 _:=hr.mono (by decide);have zez:m7 6 _:=hr.mono (by decide)
   refine ⟨_,c7 (o6 (j9 y8 (pv 0) j7 (j8 _)) (c8 (j5 (i7 ztz zly (c5 (p8 o0 (pv 1) j4 (fun _ _=>rfl)) c6)))) k7)
     (c7 (o6 (j9 y8 (pv 0) j7 (j8 _)) (c8 (j5 (i7 zwy zsz (c5 (i7 zt zkz (c5 (p8 o0 (pv 1) j4 (fun _ _=>rfl)) c6)) c6)))) k7)
     (c7 (o6 (j9 y8 (pv 0) j7 (j8 _)) (c8 (j5 (K4 B.str (c5 (i7 zry zix (c5 (p8 o0 (pv 1) j4 (fun _ _=>rfl)) c6)) c6)))) k7)
     (c7 (o6 (j9 y8 (pv 0) j7 (j8 _)) (c8 (j5 E8)) k7)
     (c7 (o6 (j9 y8 (pv 0) j7 (j8 _)) (c8 (j5 (K4 B.str (c5 E8 c6)))) k7)
     (c7 (o6 (j9 y8 (pv 0) j7 (j8 _)) (c8 (j5 (S5 zqx zh (N2 fun _ _ _ h=>h) (c5 (p8 o0 (pv 1) j4 (fun _ _=>rfl)) (c5 (p8 o0 (pv 1) j4 (fun _ _=>rfl)) c6))))) k7)
     (c7 (o6 (j9 y8 (pv 0) j7 (j8 _)) (c8 (j5 (i7 zsx zlx (c5 (S5 ziy yy (N2 fun _ _ _ h=>h) (c5 (p8 o0 (pv 1) j4 (fun _ _=>rfl)) (c5 (p8 o0 (pv 1) j4 (fun _ _=>rfl)) c6))) c6)))) k7)
     (c8 (j5 (i7 zsx zlx (c5 (G6 au2 (S5 znz zez (N2 fun _ _ _ h=>h) (c5 (p8 o0 (pv 1) j4 (fun _ _=>rfl)) (c5 (p8 o0 (pv 1) j4 (fun _ _=>rfl)) c6))) O4 (j8 _)) c6)))))))))),?_⟩
   rcases h with ⟨a,p,m,rfl,rfl,tp,l16,m1,m2,q⟩|⟨a,p,b,u,hw,rfl,tp,tq,e,q⟩
   · refine ⟨_,rfl,rfl,_,rfl,n9 ⟨_,rfl,rfl,_,rfl,n9 ⟨_,rfl,rfl,_,rfl,n9 ⟨_,rfl,rfl,_,rfl,n9 ⟨_,rfl,rfl,_,rfl,n9 ⟨_,rfl,rfl,_,rfl,A8 ⟨_,rfl,l,_,_,_,rfl,rfl,i5.of hl,o9 (j:=0) rfl,?_⟩⟩⟩⟩⟩⟩⟩;exact ⟨_,rfl,l,_,_,_,rfl,rfl,i5.of hl,o9 (j:=1) rfl,.inr ⟨a,p,m,rfl,tp,l16,m1,m2,q⟩⟩
   · rcases hw with rfl|rfl
     · refine ⟨_,rfl,rfl,_,rfl,n9 ⟨_,rfl,rfl,_,rfl,n9 ⟨_,rfl,rfl,_,rfl,n9 ⟨_,rfl,rfl,_,rfl,n9 ⟨_,rfl,rfl,_,rfl,n9 ⟨_,rfl,rfl,_,rfl,n9 ⟨_,rfl,rfl,_,rfl,A8 ⟨_,rfl,l,_,_,_,rfl,rfl,i5.of hl,o9 (j:=0) rfl,?_⟩⟩⟩⟩⟩⟩⟩⟩;exact ⟨_,rfl,l,_,_,_,rfl,rfl,i5.of hl,o9 (j:=1) rfl,.inr ⟨a,b,p,u,rfl,tp,tq,e,q⟩⟩
     · refine ⟨_,rfl,rfl,_,rfl,n9 ⟨_,rfl,rfl,_,rfl,n9 ⟨_,rfl,rfl,_,rfl,n9 ⟨_,rfl,rfl,_,rfl,n9 ⟨_,rfl,rfl,_,rfl,n9 ⟨_,rfl,rfl,_,rfl,n9 ⟨_,rfl,rfl,_,rfl,n9 ⟨_,rfl,l,_,_,_,rfl,rfl,i5.of hl,o9 (j:=0) rfl,?_⟩⟩⟩⟩⟩⟩⟩⟩;exact ⟨_,rfl,l,_,_,_,rfl,rfl,i5.of hl,o9 (j:=1) rfl,.inr ⟨a,b,p,u,rfl,tp,tq,e,q⟩⟩
end
end My
namespace My
open PySem L2 Mth
section
variable {P:Program} {w:World} {K:PySem.W.Frag} {mg:Str->Option Value} {base:Heap} {zxy zzy:Addr} {zvy zyx zzx zy zyz zxx zzz zx zw zwz zv:Addr}
theorem aa0.keep {wd:Str}{hs:List V}{H H':Hp}{Q:VK}(h:aa0 wd hs H Q)(s:e8 H H'):aa0 wd hs H' Q:=by
 rcases h with ⟨a,p,rfl,rfl,tp,q⟩|⟨a,p,rfl,rfl,tp,q⟩|⟨a,p,rfl,rfl,tp,q⟩|⟨a,p,m,rfl,rfl,tp,l16,m1,m2,q⟩|⟨a,p,b,u,rfl,rfl,tp,tq,e,q⟩|⟨a,p,b,u,rfl,rfl,tp,tq,e,q⟩
 · exact .inl ⟨a,p,rfl,rfl,tp.keep s,fun H2 s2=>q H2 (s.trans s2)⟩
 · exact .inr (.inl ⟨a,p,rfl,rfl,tp.keep s,fun ns H2 s2=>q ns H2 (s.trans s2)⟩)
 · exact .inr (.inr (.inl ⟨a,p,rfl,rfl,tp.keep s,fun h H2 s2=>q h H2 (s.trans s2)⟩))
 · exact .inr (.inr (.inr (.inl ⟨a,p,m,rfl,rfl,tp.keep s,l16,m1,m2,fun x H2 hx s2=>q x H2 hx (s.trans s2)⟩)))
 · exact .inr (.inr (.inr (.inr (.inl ⟨a,p,b,u,rfl,rfl,tp.keep s,tq.keep s,e,fun H2 s2=>q H2 (s.trans s2)⟩))))
 · exact .inr (.inr (.inr (.inr (.inr ⟨a,p,b,u,rfl,rfl,tp.keep s,tq.keep s,e,fun H2 s2=>q H2 (s.trans s2)⟩))))
theorem aa0.mono {wd:Str}{hs:List V}{H:Hp}{Q Q':VK}(h:aa0 wd hs H Q)(m:∀x H',Q (.str x) H'->Q' (.str x) H'):aa0 wd hs H Q':=by
 rcases h with ⟨a,p,rfl,rfl,tp,q⟩|⟨a,p,rfl,rfl,tp,q⟩|⟨a,p,rfl,rfl,tp,q⟩|⟨a,p,k,rfl,rfl,tp,l16,m1,m2,q⟩|⟨a,p,b,u,rfl,rfl,tp,tq,e,q⟩|⟨a,p,b,u,rfl,rfl,tp,tq,e,q⟩
 · exact .inl ⟨a,p,rfl,rfl,tp,fun H2 s2=>m _ _ (q H2 s2)⟩
 · exact .inr (.inl ⟨a,p,rfl,rfl,tp,fun ns H2 s2 x y=>m _ _ (q ns H2 s2 x y)⟩)
 · exact .inr (.inr (.inl ⟨a,p,rfl,rfl,tp,fun h H2 s2 x=>m _ _ (q h H2 s2 x)⟩))
 · exact .inr (.inr (.inr (.inl ⟨a,p,k,rfl,rfl,tp,l16,m1,m2,fun x H2 hx s2=>m _ _ (q x H2 hx s2)⟩)))
 · exact .inr (.inr (.inr (.inr (.inl ⟨a,p,b,u,rfl,rfl,tp,tq,e,fun H2 s2=>m _ _ (q H2 s2)⟩))))
 · exact .inr (.inr (.inr (.inr (.inr ⟨a,p,b,u,rfl,rfl,tp,tq,e,fun H2 s2=>m _ _ (q H2 s2)⟩))))
theorem ap1.keep {qf qm:Addr}{wd:Str}{hs:List V}{H H':Hp}{E:XK}(h:ap1 qf qm wd hs H E)(s:e8 H H'):ap1 qf qm wd hs H' E:=by
 rcases h with ⟨a,p,m,rfl,rfl,tp,l16,m1,m2,q⟩|⟨a,p,b,u,hw,rfl,tp,tq,e,q⟩
 · exact .inl ⟨a,p,m,rfl,rfl,tp.keep s,l16,m1,m2,fun H2 s2=>q H2 (s.trans s2)⟩
 · exact .inr ⟨a,p,b,u,hw,rfl,tp.keep s,tq.keep s,e,fun H2 s2=>q H2 (s.trans s2)⟩
theorem ap1.mono {qf qm:Addr}{wd:Str}{hs:List V}{H:Hp}{E E':XK}(h:ap1 qf qm wd hs H E)(m:∀v H',E v none H'->E' v none H'):ap1 qf qm wd hs H E':=by
 rcases h with ⟨a,p,k,rfl,rfl,tp,l16,m1,m2,q⟩|⟨a,p,b,u,hw,rfl,tp,tq,e,q⟩
 · exact .inl ⟨a,p,k,rfl,rfl,tp,l16,m1,m2,fun H2 s2=>m _ _ (q H2 s2)⟩
 · exact .inr ⟨a,p,b,u,hw,rfl,tp,tq,e,fun H2 s2=>m _ _ (q H2 s2)⟩
def dm1 (C:Addr)(H:Hp)(d kd:Addr)(es:List (x5×V))(wd:Str)(args:List Str)(Q:VK):Prop:=
 ∃nm p,wd="turn"/\args=[nm,K1 p]/\A1 p/\p.length<=40/\es.length<=1000/\∀l H',H l=none->o5 kd H H'->G0 C H' d kd (P0 es (Sum.inr nm) (.ref l))->H' l=some (.lst (p.map V.int))->Q (.str "ok") H'
def L7 (C:Addr):Sp:=fun vs H Q _=>∃(d kd:Addr) (es:List (x5×V)) (row wd:Str) (args ys:List Str),vs=[.ref d,.str row]/\G0 C H d kd es/\M1 row (wd::args)/\ac5 wd args ys/\af9 es args ys/\
 (dm1 C H d kd es wd args Q\/(ys.head?=some "name"/\wd≠"drop"/\aa0 wd (X9 es args ys) H Q))
theorem O8:m9 ["self","row","words","handed"] ["self","row"] (j6 ac4):=by rfl'
theorem ax4 {f:Addr}{fd:FuncData}(F:x6 K "say" "Desk.say" ac4 f fd)(znx:m8 P w K mg base "read_row" 5 ["row"] ah4)(zux:ao5 P w K mg base zzy "hand_over" 2 ["self","words"] (bf1 zzy))(zwy:m8 P w K mg base "with_blanks" 1 ["things"] Z6)(zo:m8 P w K mg base "make_turn" 7 ["word","handed"] bf2)(zny:m8 P w K mg base "answer_row" 9 ["word","handed"] bf3)(DF:av7 K zzy)(ztx:mg "PLACES"=some (.ref zxy))(TK:W6 K w zxy):n5 P w K mg base y7 10 f fd ["self","row"] (L7 zzy):=by
 refine F.ok O8 (fun vs H Q E h=> ?_) (fun cdv A outer s H vs Q E hr h=> ?_)
 · obtain ⟨d,kd,es,row,wd,args,ys,rfl,D0,rw_,ro,ho,h⟩:=h;rfl
 · obtain ⟨d,kd,es,row,wd,args,ys,rfl,D0,rw_,ro,ho,h⟩:=h;have zax:m7 5 _:=hr.mono (by decide);have zjz:m7 2 _:=hr.mono (by decide);have zsz:m7 1 _:=hr.mono (by decide);have zcx:m7 7 _:=hr.mono (by decide);have zey:m7 9 _:=hr.mono (by decide);have hu:=O1 hr
   refine ⟨_,c7 (m6 (i:=2) O8.nd rfl (Or.inl rfl) (i7 znx zax (c5 (pv 1) c6)))
     (c7 (m6 (i:=3) O8.nd rfl (Or.inl rfl) (S9 zux zjz (pv 0) (c5 (pv 2) c6)))
     (c7 (o6 (j9 y8 (p8 o0 (pv 2) j4 (fun _ _=>rfl)) j7 (j8 _)) (c8 (j5 (i7 zwy zsz (c5 E8 c6)))) k7)
     (c7 (o6 (j9 y8 (p8 o0 (pv 2) j4 (fun _ _=>rfl)) j7 (j8 _)) (c7 (x8 E8)
       (c8 (j5 j7))) k7)
     (c7 (o6 (j9 y8 (p8 U2 (bx8 (B3 (v:= .ref zxy) (by rfl) ztx rfl) (p8 o0 (pv 2) j4 (fun _ _=>rfl)) (fun _ _=>rfl)) j4 (fun _ _=>rfl)) j7 (j8 _)) (c7 (au7 hu (bb5 (pv 0) rfl) (p8 o0 (pv 2) j4 (fun _ _=>rfl)) (i7 zo zcx (c5 (p8 o0 (pv 2) j4 (fun _ _=>rfl)) (c5 (pv 3) c6))) rfl)
       (c8 (j5 j7))) k7)
     (c8 (j5 (i7 zny zey (c5 (p8 o0 (pv 2) j4 (fun _ _=>rfl)) (c5 (pv 3) c6))))))))),?_⟩
   have rf:=ro.1;obtain ⟨kvs,b,tk,hb,st⟩:=TK.at_ rf;refine ⟨_,rfl,row,wd,args,ys,rfl,rw_,ro,fun l H1 hl s1 h1=> ?_⟩;have D1:=D0.keep s1;obtain ⟨dx,d1,d2,d3⟩:=id D1;refine ⟨_,rfl,d,dx,_,rfl,d1,rfl,_,rfl,d,kd,l,es,wd,args,ys,rfl,D1,h1,ro,ho,fun m H2 hm s2 h2=> ?_⟩;have s12:=s1.trans s2;have D2:=D1.keep s2;have h2l:=s2 _ _ h1;have A4:Y2 ((wd::args).map V.str) 0=some (.str wd):=o9 (j:=0) rfl;refine ⟨_,rfl,l,_,_,_,rfl,rfl,i5.of h2l,A4,rfl,_,rfl,?_⟩
   rcases h with ⟨nm,p,rfl,rfl,tp,lp,le,q⟩|⟨yh,nd,q⟩
   · have ey:ys=(["into","text"]:List Str):=by
       have e:(J1.find? fun r=>decide (r.1=("turn":Str)))=some (("turn":Str),(["into","text"]:List Str)):=by decide+kernel
       rw[e] at rf;exact (Prod.mk.inj (Option.some.inj rf)).2.symm
     subst ey;refine n9 ⟨_,rfl,l,_,_,_,rfl,rfl,i5.of h2l,A4,rfl,_,rfl,n9 ?_⟩;refine ⟨_,rfl,l,_,_,_,rfl,rfl,i5.of h2l,A4,zxy,kvs,"turn",b,rfl,rfl,tk,hb,b,_,_,_,rfl,rfl,st.sq _,o9 (j:=0) rfl,rfl,_,rfl,A8 ?_⟩
     have hf:X9 es [nm,K1 p] (["into","text"]:List Str)=[.str (K1 p)]:=by
       have n1:("into":Str)≠"name":=by decide+kernel
       have n2:("into":Str)≠"text":=by decide+kernel
       have n3:("text":Str)≠"name":=by decide+kernel
       unfold X9 J5;simp [n1,n2,n3]
     rw[hf] at h2;refine ⟨_,rfl,l,_,_,_,rfl,rfl,i5.of h2l,A4,_,rfl,m,p,rfl,h2,tp,lp,fun o H3 hO s3 h3=> ?_⟩;have D3:=D2.keep s3;obtain ⟨ex,e1,e2,e3⟩:=D3;refine ⟨_,rfl,d,zzy,ex,_,_,rfl,e1,DF.cl,DF.nk,rfl,_,rfl,l,_,_,_,rfl,rfl,i5.of (s3 _ _ h2l),o9 (j:=1) rfl,kd,_,rfl,ay1.k (k:=Sum.inr nm) e3 (p9 le),?_⟩;have s123:=s12.trans s3
     have n1:d≠kd:=fun z=>by rw[z,e3] at e1;cases e1
     have n2:ex≠kd:=fun z=>by rw[z,e3] at e2;cases e2
     have n3:o≠kd:=fun z=>by rw[z,e3] at h3;cases h3
     refine q o _ (by
       cases z:H o with
       |none=>rfl
       |some u=>rw[s12 _ _ z] at hO;cases hO) (fun x u hx nx=>by rw[i6 nx];exact s123 _ _ hx) ⟨ex,by rw[i6 n1];exact e1,by rw[i6 n2];exact e2,c9⟩ (by rw[i6 n3];exact h3)
   · have nn:wd≠"names":=fun z=>by
       subst z
       have e:(J1.find? fun r=>decide (r.1=("names":Str)))=some (("names":Str),([]:List Str)):=by decide+kernel
       rw[e] at rf;have:=(Prod.mk.inj (Option.some.inj rf)).2;rw[<-this] at yh;cases yh
     rw[decide_eq_false (fun z=>nn (V.str.inj z))];refine n9 ⟨_,rfl,l,_,_,_,rfl,rfl,i5.of h2l,A4,rfl,_,rfl,?_⟩;rw[decide_eq_false (fun z=>nd (V.str.inj z))]
     obtain ⟨y0,yr,rfl⟩:∃y0 yr,ys=y0::yr:=by
       cases ys with
       |nil=>cases yh
       |cons y0 yr=>exact ⟨y0,yr,rfl⟩
     cases yh;refine n9 ⟨_,rfl,l,_,_,_,rfl,rfl,i5.of h2l,A4,zxy,kvs,wd,b,rfl,rfl,tk,hb,b,_,_,_,rfl,rfl,st.sq _,o9 (j:=0) rfl,rfl,_,rfl,n9 ?_⟩;exact ⟨_,rfl,l,_,_,_,rfl,rfl,i5.of h2l,A4,_,rfl,wd,m,_,rfl,h2,q.keep s12⟩
def ab2 (C qf qm:Addr):Sp:=fun vs H _ E=>∃(d kd:Addr) (es:List (x5×V)) (row wd:Str) (args ys:List Str),vs=[.ref d,.str row]/\G0 C H d kd es/\M1 row (wd::args)/\ac5 wd args ys/\af9 es args ys/\ys.head?=some "name"/\wd≠"drop"/\ap1 qf qm wd (X9 es args ys) H E
theorem bz7 {f:Addr}{fd:FuncData}(F:x6 K "say" "Desk.say" ac4 f fd)(znx:m8 P w K mg base "read_row" 5 ["row"] ah4)(zux:ao5 P w K mg base zzy "hand_over" 2 ["self","words"] (bf1 zzy))(zwy:m8 P w K mg base "with_blanks" 1 ["things"] Z6)(zo:m8 P w K mg base "make_turn" 7 ["word","handed"] bf2)(zny:Q8 P w K mg base "answer_row" 9 ["word","handed"] (fun vs H Q E=>bf3 vs H Q E\/(bz6 zzx zzz) vs H Q E))(DF:av7 K zzy)(ztx:mg "PLACES"=some (.ref zxy))(TK:W6 K w zxy):n5 P w K mg base (W2 P w) 10 f fd ["self","row"] (ab2 zzy zzx zzz):=by
 refine F.okx O8 (fun vs H Q E h=> ?_) (fun cdv A outer s H vs Q E hr h=> ?_)
 · obtain ⟨d,kd,es,row,wd,args,ys,rfl,D0,rw_,ro,ho,hn,nd,h⟩:=h;rfl
 · obtain ⟨d,kd,es,row,wd,args,ys,rfl,D0,rw_,ro,ho,hn,nd,h⟩:=h;have zax:m7 5 _:=hr.mono (by decide);have zjz:m7 2 _:=hr.mono (by decide);have zsz:m7 1 _:=hr.mono (by decide);have zcx:m7 7 _:=hr.mono (by decide);have zey:m7 9 _:=hr.mono (by decide);have hu:=O1 hr
   refine ⟨_,c7 (m6 (i:=2) O8.nd rfl (Or.inl rfl) (i7 znx zax (c5 (pv 1) c6)))
     (c7 (m6 (i:=3) O8.nd rfl (Or.inl rfl) (S9 zux zjz (pv 0) (c5 (pv 2) c6)))
     (c7 (o6 (j9 y8 (p8 o0 (pv 2) j4 (fun _ _=>rfl)) j7 (j8 _)) (c8 (j5 (i7 zwy zsz (c5 E8 c6)))) k7)
     (c7 (o6 (j9 y8 (p8 o0 (pv 2) j4 (fun _ _=>rfl)) j7 (j8 _)) (c7 (x8 E8)
       (c8 (j5 j7))) k7)
     (c7 (o6 (j9 y8 (p8 U2 (bx8 (B3 (v:= .ref zxy) (by rfl) ztx rfl) (p8 o0 (pv 2) j4 (fun _ _=>rfl)) (fun _ _=>rfl)) j4 (fun _ _=>rfl)) j7 (j8 _)) (c7 (au7 hu (bb5 (pv 0) rfl) (p8 o0 (pv 2) j4 (fun _ _=>rfl)) (i7 zo zcx (c5 (p8 o0 (pv 2) j4 (fun _ _=>rfl)) (c5 (pv 3) c6))) rfl)
       (c8 (j5 j7))) k7)
     (c8 (j5 (S5 zny zey (N2 fun _ _ _ h=>h) (c5 (p8 o0 (pv 2) j4 (fun _ _=>rfl)) (c5 (pv 3) c6))))))))),?_⟩
   have rf:=ro.1;obtain ⟨kvs,b,tk,hb,st⟩:=TK.at_ rf;refine ⟨_,rfl,row,wd,args,ys,rfl,rw_,ro,fun l H1 hl s1 h1=> ?_⟩;have D1:=D0.keep s1;obtain ⟨dx,d1,d2,d3⟩:=id D1;refine ⟨_,rfl,d,dx,_,rfl,d1,rfl,_,rfl,d,kd,l,es,wd,args,ys,rfl,D1,h1,ro,ho,fun m H2 hm s2 h2=> ?_⟩;have s12:=s1.trans s2;have h2l:=s2 _ _ h1;have A4:Y2 ((wd::args).map V.str) 0=some (.str wd):=o9 (j:=0) rfl;refine ⟨_,rfl,l,_,_,_,rfl,rfl,i5.of h2l,A4,rfl,_,rfl,?_⟩
   have nn:wd≠"names":=fun z=>by
     subst z
     have e:(J1.find? fun r=>decide (r.1=("names":Str)))=some (("names":Str),([]:List Str)):=by decide+kernel
     rw[e] at rf;have:=(Prod.mk.inj (Option.some.inj rf)).2;rw[<-this] at hn;cases hn
   rw[decide_eq_false (fun z=>nn (V.str.inj z))];refine n9 ⟨_,rfl,l,_,_,_,rfl,rfl,i5.of h2l,A4,rfl,_,rfl,?_⟩;rw[decide_eq_false (fun z=>nd (V.str.inj z))]
   obtain ⟨y0,yr,rfl⟩:∃y0 yr,ys=y0::yr:=by
     cases ys with
     |nil=>cases hn
     |cons y0 yr=>exact ⟨y0,yr,rfl⟩
   cases hn;refine n9 ⟨_,rfl,l,_,_,_,rfl,rfl,i5.of h2l,A4,zxy,kvs,wd,b,rfl,rfl,tk,hb,b,_,_,_,rfl,rfl,st.sq _,o9 (j:=0) rfl,rfl,_,rfl,n9 ?_⟩;exact ⟨_,rfl,l,_,_,_,rfl,rfl,i5.of h2l,A4,_,rfl,.inr ⟨wd,m,_,rfl,h2,h.keep s12⟩⟩
theorem L7.mono {C:Addr}{vs:List V}{H:Hp}{Q Q':VK}{E E':XK}(h:L7 C vs H Q E)(m:∀x H',Q (.str x) H'->Q' (.str x) H'):L7 C vs H Q' E':=by
 obtain ⟨d,kd,es,row,wd,args,ys,rfl,D0,rw_,ro,ho,h⟩:=h;refine ⟨d,kd,es,row,wd,args,ys,rfl,D0,rw_,ro,ho,?_⟩
 rcases h with ⟨nm,p,e1,e2,tp,lp,le,q⟩|⟨yh,nd,q⟩
 · exact .inl ⟨nm,p,e1,e2,tp,lp,le,fun l H' x1 x2 x3 x4=>m _ _ (q l H' x1 x2 x3 x4)⟩
 · exact .inr ⟨yh,nd,q.mono m⟩
theorem ab2.mono {C qf qm:Addr}{vs:List V}{H:Hp}{Q Q':VK}{E E':XK}(h:ab2 C qf qm vs H Q E)(m:∀v H',E v none H'->E' v none H'):ab2 C qf qm vs H Q' E':=by
 obtain ⟨d,kd,es,row,wd,args,ys,rfl,D0,rw_,ro,ho,hn,nd,h⟩:=h;exact ⟨d,kd,es,row,wd,args,ys,rfl,D0,rw_,ro,ho,hn,nd,h.mono m⟩
theorem dm2 {n:Str}(hn:n∈(["NoFit","NoName","NoNumber","NoRoot","NoRow","NoText","TooMany"]:List Str)){ks:List V}(hk:ks=[.bl (decide (n="NoFit")),.bl (decide (n="NoName")),.bl (decide (n="NoNumber")),.bl (decide (n="NoRoot")),.bl (decide (n="NoRow")),.bl (decide (n="NoText")),.bl (decide (n="TooMany"))]):
   ks.length=7/\ks.all P6=true/\ks.countP (fun i=>eqV i (.bl true))=1/\∃j:Nat,j < 7/\(["NoFit","NoName","NoNumber","NoRoot","NoRow","NoText","TooMany"]:List Str)[j]? =some n/\ks[j]? =some (.bl true)/\∀i,i < j->ks[i]? =some (.bl false):=by
 subst hk;simp only[ec8,eg4,or_false] at hn
 rcases hn with rfl|rfl|rfl|rfl|rfl|rfl|rfl
 · exact ⟨rfl,by decide+kernel,by decide+kernel,0,by decide+kernel,by decide+kernel,by decide+kernel,by decide+kernel⟩
 · exact ⟨rfl,by decide+kernel,by decide+kernel,1,by decide+kernel,by decide+kernel,by decide+kernel,by decide+kernel⟩
 · exact ⟨rfl,by decide+kernel,by decide+kernel,2,by decide+kernel,by decide+kernel,by decide+kernel,by decide+kernel⟩
 · exact ⟨rfl,by decide+kernel,by decide+kernel,3,by decide+kernel,by decide+kernel,by decide+kernel,by decide+kernel⟩
 · exact ⟨rfl,by decide+kernel,by decide+kernel,4,by decide+kernel,by decide+kernel,by decide+kernel,by decide+kernel⟩
 · exact ⟨rfl,by decide+kernel,by decide+kernel,5,by decide+kernel,by decide+kernel,by decide+kernel,by decide+kernel⟩
 · exact ⟨rfl,by decide+kernel,by decide+kernel,6,by decide+kernel,by decide+kernel,by decide+kernel,by decide+kernel⟩
def N4 (C qf qm:Addr)(cs:List (Str×Addr)):Sp:=fun vs H Q E=>(∃d row,vs=[.ref d,.str row])/\
 (L7 C vs H (fun v H'=>∃x,v= .str x/\∀H'',e8 H' H''->Q (.str x) H'') E\/ab2 C qf qm vs H Q (fun v _ H'=>∃n q,v= .ref q/\(n,q)∈cs/\n≠"NoKind"/\n≠"NoRounds"/\n≠"NoTurn"/\∀H'',e8 H' H''->Q (.str n) H''))
theorem K3:m9 ["desk","row","caught","found","e","kinds"] ["desk","row"] (j6 an8):=by rfl'
theorem cc9 {f:Addr}{fd:FuncData}(F:x6 K "_law_said" "_law_said" an8 f fd)(B:Bl mg)(zr:bq4 P w K mg base zzy "say" 10 ["self","row"] (fun vs H Q E=>(L7 zzy) vs H Q E\/(ab2 zzy zzx zzz) vs H Q E))(ER:bu6 K mg zvy [("NoTurn",zyx),("NoFit",zzx),("NoRounds",zy),("NoNumber",zyz),("NoRoot",zxx),("TooMany",zzz),("NoKind",zx),("NoText",zw),("NoName",zwz),("NoRow",zv)]):n5 P w K mg base y7 11 f fd ["desk","row"] (N4 zzy zzx zzz [("NoTurn",zyx),("NoFit",zzx),("NoRounds",zy),("NoNumber",zyz),("NoRoot",zxx),("TooMany",zzz),("NoKind",zx),("NoText",zw),("NoName",zwz),("NoRow",zv)]):=by
 refine F.ok K3 (fun vs H Q E h=> ?_) (fun cdv A outer s H vs Q E hr h=> ?_)
 · obtain ⟨⟨d,row,rfl⟩,h⟩:=h;rfl
 · obtain ⟨⟨d,row,rfl⟩,h⟩:=h;have zqy:m7 10 _:=hr.mono (by decide)
   refine ⟨_,c7 (m6 (i:=2) K3.nd rfl (Or.inl rfl) O4)
     (c7 (m6 (i:=3) K3.nd rfl (Or.inl rfl) j7)
     (c7 (dp9 (i:=4) (dl8 (i:=3) zr zqy K3.nd rfl (Or.inl rfl) (pv 0) (c5 (pv 1) c6)) ER.top K3.nd rfl rfl (fun _=>(c8 (m6 (i:=2) K3.nd rfl (Or.inl rfl) (pv 4)))))
     (c7 (o6 (j9 bb3 (pv 2) O4 (j8 _)) (c8 (j5 (p8 o0 (A6 (c5 (pv 3) (c5 j7 c6))) (aj8 B.int (c5 (cn8 (aa6 B.isi (c5 (pv 3) (c5 (ay8 B.str) c6)))) c6)) (fun _ _=>rfl)))) k7)
     (c7 (m6 (i:=5) K3.nd rfl (Or.inl rfl) (A6 (c5 (W3 B.isi (c5 (pv 2) (c5 (B3 (v:= .ref zzx) (by rfl) (ER.err ("NoFit",zzx) (by simp)).mg rfl) c6))) (c5 (W3 B.isi (c5 (pv 2) (c5 (B3 (v:= .ref zwz) (by rfl) (ER.err ("NoName",zwz) (by simp)).mg rfl) c6))) (c5 (W3 B.isi (c5 (pv 2) (c5 (B3 (v:= .ref zyz) (by rfl) (ER.err ("NoNumber",zyz) (by simp)).mg rfl) c6))) c6)))))
     (c7 (m6 (i:=5) K3.nd rfl (Or.inl rfl) (q0 cp9 (pv 5) (A6 (c5 (W3 B.isi (c5 (pv 2) (c5 (B3 (v:= .ref zxx) (by rfl) (ER.err ("NoRoot",zxx) (by simp)).mg rfl) c6))) (c5 (W3 B.isi (c5 (pv 2) (c5 (B3 (v:= .ref zv) (by rfl) (ER.err ("NoRow",zv) (by simp)).mg rfl) c6))) (c5 (W3 B.isi (c5 (pv 2) (c5 (B3 (v:= .ref zw) (by rfl) (ER.err ("NoText",zw) (by simp)).mg rfl) c6))) c6))))))
     (c7 (x8 (C6 (pv 5) (c5 (W3 B.isi (c5 (pv 2) (c5 (B3 (v:= .ref zzz) (by rfl) (ER.err ("TooMany",zzz) (by simp)).mg rfl) c6))) c6)))
     (c7 (o6 (R5 (G8 (dk0 B.isi (c5 (pv 2) (c5 (bb6 (c5 (B3 (v:= .ref zx) (by rfl) (ER.err ("NoKind",zx) (by simp)).mg rfl) (c5 (B3 (v:= .ref zy) (by rfl) (ER.err ("NoRounds",zy) (by simp)).mg rfl) (c5 (B3 (v:= .ref zyx) (by rfl) (ER.err ("NoTurn",zyx) (by simp)).mg rfl) c6)))) c6)))) (Q3 (K5 (G8 (W3 B.isi (c5 (pv 2) (c5 (dj5 B.ve) c6))))))).pt (c8 (j5 j7)) k7)
     (c7 (o6 (j9 J3 (cu2 K (pv 5) (c5 E5 c6)) j4 (j8 _)) (c8 (j5 j7)) k7)
     (c8 (j5 (p8 o0 (A6 (c5 j7 (c5 j7 (c5 j7 (c5 j7 (c5 j7 (c5 j7 (c5 j7 c6)))))))) (cu3 K (pv 5) (c5 E5 c6)) (fun _ _=>rfl)))))))))))),?_⟩
   rcases h with h|h
   · obtain ⟨dx,d1⟩:∃dx fs,H d=some (.ins zzy dx [("kept",fs)]):=by
       obtain ⟨d',kd,es,row',wd,args,ys,e,⟨dx,d1,_⟩,_⟩:=h;cases e;exact ⟨dx,_,d1⟩
     obtain ⟨fs,d1⟩:=d1;refine ⟨_,rfl,d,dx,_,rfl,d1,rfl,_,rfl,.inl (h.mono fun x H1 ⟨x',e,q⟩=> ?_)⟩;cases e;refine ⟨_,rfl,rfl,_,rfl,A8 ?_⟩;refine ⟨_,rfl,(show 2<=sizeLine by decide),fun l hl=> ?_⟩;exact ⟨_,rfl,_,"str",_,true,rfl,.str x,Q6 K "str",true,rfl,_,rfl,l,_,0,_,rfl,rfl,i5.of c9,o9 (j:=0) rfl,q _ (e8.upd_new hl)⟩
   · obtain ⟨dx,d1⟩:∃dx fs,H d=some (.ins zzy dx [("kept",fs)]):=by
       obtain ⟨d',kd,es,row',wd,args,ys,e,⟨dx,d1,_⟩,_⟩:=h;cases e;exact ⟨dx,_,d1⟩
     obtain ⟨fs,d1⟩:=d1;refine ⟨_,rfl,d,dx,_,rfl,d1,rfl,_,rfl,.inr (h.mono fun v H0 ⟨n,C,e,hn,nk,nr,nt,q⟩=>⟨C,e,ER.exm (n,C) hn,fun a ha=> ?_⟩)⟩;refine ⟨_,rfl,?_⟩;refine ⟨_,rfl,rfl,_,rfl,?_⟩;refine n9 ?_;obtain ⟨H',eH⟩:∃Hn,Hn=i8 H0 a (as5 a C):=⟨_,rfl⟩;have s0:e8 H0 H':=eH▸e8.upd_new ha
     have hH:H' a=some (as5 a C):=by rw[eH];exact c9
     refine eH▸(?_:aq8 _ _ _ _ H');have IC:=ER.inst (n,C) hn;have p0:=ER.pair (n,C) hn ("NoFit",zzx) (by simp);have p1:=ER.pair (n,C) hn ("NoName",zwz) (by simp);have p2:=ER.pair (n,C) hn ("NoNumber",zyz) (by simp);have p3:=ER.pair (n,C) hn ("NoRoot",zxx) (by simp);have p4:=ER.pair (n,C) hn ("NoRow",zv) (by simp);have p5:=ER.pair (n,C) hn ("NoText",zw) (by simp);have p6:=ER.pair (n,C) hn ("TooMany",zzz) (by simp);have r0:=(ER.pair (n,C) hn ("NoKind",zx) (by simp)).trans (congrArg some (decide_eq_false nk));have r1:=(ER.pair (n,C) hn ("NoRounds",zy) (by simp)).trans (congrArg some (decide_eq_false nr));have r2:=(ER.pair (n,C) hn ("NoTurn",zyx) (by simp)).trans (congrArg some (decide_eq_false nt));obtain ⟨k0,hk0⟩:∃b,b=decide (n="NoFit"):=⟨_,rfl⟩;obtain ⟨k1,hk1⟩:∃b,b=decide (n="NoName"):=⟨_,rfl⟩;obtain ⟨k2,hk2⟩:∃b,b=decide (n="NoNumber"):=⟨_,rfl⟩;obtain ⟨k3,hk3⟩:∃b,b=decide (n="NoRoot"):=⟨_,rfl⟩;obtain ⟨k4,hk4⟩:∃b,b=decide (n="NoRow"):=⟨_,rfl⟩;obtain ⟨k5,hk5⟩:∃b,b=decide (n="NoText"):=⟨_,rfl⟩;obtain ⟨k6,hk6⟩:∃b,b=decide (n="TooMany"):=⟨_,rfl⟩
     replace p0:=p0.trans (congrArg some hk0.symm)
     replace p1:=p1.trans (congrArg some hk1.symm)
     replace p2:=p2.trans (congrArg some hk2.symm)
     replace p3:=p3.trans (congrArg some hk3.symm)
     replace p4:=p4.trans (congrArg some hk4.symm)
     replace p5:=p5.trans (congrArg some hk5.symm)
     replace p6:=p6.trans (congrArg some hk6.symm)
     refine ⟨_,rfl,a,C,_,_,_,rfl,.inl ⟨_,rfl,rfl⟩,hH,IC,p0,_,rfl,a,C,_,_,_,rfl,.inl ⟨_,rfl,rfl⟩,hH,IC,p1,_,rfl,a,C,_,_,_,rfl,.inl ⟨_,rfl,rfl⟩,hH,IC,p2,(show 3<=sizeLine by decide),fun l1 h1=> ?_⟩;obtain ⟨H1,eH1⟩:∃Hn,Hn=i8 H' l1 (.lst [V.bl (k0),V.bl (k1),V.bl (k2)]):=⟨_,rfl⟩;have sH1:e8 H' H1:=eH1▸e8.upd_new h1
     have gH1:H1 l1=some (.lst [V.bl (k0),V.bl (k1),V.bl (k2)]):=by rw[eH1];exact c9
     refine eH1▸(?_:aq8 _ _ _ _ H1);have a1:=sH1 a _ hH;refine ⟨_,rfl,_,rfl,a,C,_,_,_,rfl,.inl ⟨_,rfl,rfl⟩,a1,IC,p3,_,rfl,a,C,_,_,_,rfl,.inl ⟨_,rfl,rfl⟩,a1,IC,p4,_,rfl,a,C,_,_,_,rfl,.inl ⟨_,rfl,rfl⟩,a1,IC,p5,(show 3<=sizeLine by decide),fun l2 h2=> ?_⟩;obtain ⟨H2,eH2⟩:∃Hn,Hn=i8 H1 l2 (.lst [V.bl (k3),V.bl (k4),V.bl (k5)]):=⟨_,rfl⟩;have sH2:e8 H1 H2:=eH2▸e8.upd_new h2
     have gH2:H2 l2=some (.lst [V.bl (k3),V.bl (k4),V.bl (k5)]):=by rw[eH2];exact c9
     refine ⟨l1,l2,[V.bl (k0),V.bl (k1),V.bl (k2)],[V.bl (k3),V.bl (k4),V.bl (k5)],rfl,rfl,e8.upd_new h2 _ _ gH1,c9,(show 6<=sizeLine by decide),fun l3 h3=> ?_⟩;have h3:H2 l3=none:=eH2▸h3;obtain ⟨H3,eH3⟩:∃Hn,Hn=i8 H2 l3 (.lst [V.bl (k0),V.bl (k1),V.bl (k2),V.bl (k3),V.bl (k4),V.bl (k5)]):=⟨_,rfl⟩;have sH3:e8 H2 H3:=eH3▸e8.upd_new h3
     have gH3:H3 l3=some (.lst [V.bl (k0),V.bl (k1),V.bl (k2),V.bl (k3),V.bl (k4),V.bl (k5)]):=by rw[eH3];exact c9
     refine (show i8 (i8 H1 l2 _) l3 _=H3 by rw[eH3,eH2])▸(?_:aq8 _ _ _ _ H3);have a3:=sH3 a _ (sH2 a _ a1);refine ⟨_,rfl,.inl ⟨rfl,_,i5.of gH3⟩,_,rfl,a,C,_,_,_,rfl,.inl ⟨_,rfl,rfl⟩,a3,IC,p6,l3,_,_,rfl,rfl,gH3,(show 7<=sizeLine by decide),?_⟩;have S3:e8 H' H2:=sH1.trans sH2;obtain ⟨H6,eH6⟩:∃Hn,Hn=i8 H3 l3 (.lst [V.bl (k0),V.bl (k1),V.bl (k2),V.bl (k3),V.bl (k4),V.bl (k5),V.bl (k6)]):=⟨_,rfl⟩
     have gH6:H6 l3=some (.lst [V.bl (k0),V.bl (k1),V.bl (k2),V.bl (k3),V.bl (k4),V.bl (k5),V.bl (k6)]):=by rw[eH6];exact c9
     have s6:e8 H' H6:=eH6▸(S3.trans sH3).upd_r (S3.free h3);have a6:=s6 a _ hH;refine eH6▸(?_:aq8 _ _ _ _ H6)
     have hn7:n∈(["NoFit","NoName","NoNumber","NoRoot","NoRow","NoText","TooMany"]:List Str):=by
       simp only[ec8,Prod.mk.injEq,eg4,or_false] at hn ⊢
       rcases hn with ⟨e,_⟩|⟨e,_⟩|⟨e,_⟩|⟨e,_⟩|⟨e,_⟩|⟨e,_⟩|⟨e,_⟩|⟨e,_⟩|⟨e,_⟩|⟨e,_⟩
       · exact absurd e nt
       · exact .inl e
       · exact absurd e nr
       · exact .inr (.inr (.inl e))
       · exact .inr (.inr (.inr (.inl e)))
       · exact .inr (.inr (.inr (.inr (.inr (.inr e)))))
       · exact absurd e nk
       · exact .inr (.inr (.inr (.inr (.inr (.inl e)))))
       · exact .inr (.inl e)
       · exact .inr (.inr (.inr (.inr (.inl e))))
     obtain ⟨kl,fl,cnt,j,hj,wj,kj,kb⟩:=dm2 hn7 (ks:=[V.bl (k0),V.bl (k1),V.bl (k2),V.bl (k3),V.bl (k4),V.bl (k5),V.bl (k6)]) (by rw[hk0,hk1,hk2,hk3,hk4,hk5,hk6]);generalize [V.bl (k0),V.bl (k1),V.bl (k2),V.bl (k3),V.bl (k4),V.bl (k5),V.bl (k6)]=ks at gH6 kl fl cnt kj kb;refine ⟨_,rfl,(show 3<=sizeLine by decide),fun tp htp=>⟨a,C,tp,[zx,zy,zyx],false,rfl,e8.upd_new htp _ _ a6,c9,IC,?_,?_⟩⟩
     · show PySem.W.kitAny K (.ref C) [.ref zx,.ref zy,.ref zyx]=some false;simp only[PySem.W.kitAny,r0,r1,r2]
     · refine ⟨false,rfl,n9 ?_⟩;have s7:e8 H6 (i8 H6 tp (.tup [V.ref zx,V.ref zy,V.ref zyx])):=e8.upd_new htp;generalize (i8 H6 tp (.tup [V.ref zx,V.ref zy,V.ref zyx]))=H7 at s7 ⊢;have a7:=s7 _ _ a6;have g7:=s7 _ _ gH6;refine ⟨_,rfl,a,C,_,_,_,rfl,.inr ⟨_,rfl,rfl⟩,a7,IC,ER.ve (n,C) hn,_,rfl,n9 ?_⟩;refine ⟨_,rfl,.inl ⟨rfl,_,i5.of g7⟩,⟨l3,ks,.bl true,rfl,rfl,rfl,fl,g7,?_⟩⟩;rw[cnt];refine ⟨rfl,_,rfl,n9 ?_⟩;refine ⟨(show 7<=sizeLine by decide),fun l7 h7=> ?_⟩;refine ⟨_,rfl,.inl ⟨rfl,_,i5.of (e8.upd_new h7 _ _ g7)⟩,⟨l3,ks,.bl true,j,rfl,rfl,rfl,fl,e8.upd_new h7 _ _ g7,⟨_,kj,rfl⟩,fun i y hi e=> ?_,?_,?_⟩⟩
       · rw[kb i hi] at e;cases e;rfl
       · omega
       · refine ⟨l7,_,_,_,rfl,rfl,i5.of c9,o9 (j:=j) (v:= .str n) ?_,q _ (s0.trans (s6.trans (s7.trans (e8.upd_new h7))))⟩;have e:([V.str "NoFit",V.str "NoName",V.str "NoNumber",V.str "NoRoot",V.str "NoRow",V.str "NoText",V.str "TooMany"]:List V)=((["NoFit","NoName","NoNumber","NoRoot","NoRow","NoText","TooMany"]:List Str).map V.str):=rfl;rw[e,ec1,wj];rfl
end
end My
namespace My
open PySem L2 Mth
section
variable {P:Program} {w:World} {K:PySem.W.Frag} {mg:Str->Option Value} {base:Heap}
def bf4:Sp:=fun vs H Q _=>∃(a b:Nat),vs=[.int (a:Int),.int (b:Int)]/\Q (.int ((ee4 a b:Nat):Int)) H
theorem ac6:m9 ["one","other","rest"] ["one","other"] (j6 at3):=by rfl'
theorem cm1 {f:Addr}{fd:FuncData}(F:x6 K "_law_gcd" "_law_gcd" at3 f fd):n5 P w K mg base y7 1 f fd ["one","other"] bf4:=by
 refine F.ok ac6 (fun vs H Q E h=> ?_) (fun cdv A outer s H vs Q E hr h=> ?_)
 · obtain ⟨a,b,rfl,q⟩:=h;rfl
 · obtain ⟨a,b,rfl,q⟩:=h
   refine ⟨_,c7 (V0 PassesOwn.never (j9 J3 (pv 1) j4 (j8 _))
       (c7 (m6 (i:=2) ac6.nd rfl (Or.inl rfl) (q0 K6 (pv 0) (pv 1)))
       (c7 (m6 (i:=0) ac6.nd rfl (Or.inl rfl) (pv 1))
       (c8 (m6 (i:=1) ac6.nd rfl (Or.inl rfl) (pv 2))))))
     (c8 (j5 (pv 0))),?_⟩
   refine ax7 (fun σ H2=>∃(x y:Nat) (v:Option V),σ=[some (.int (x:Int)),some (.int (y:Int)),v]/\ee4 x y=ee4 a b/\H2=H) (fun σ _=>bv3 σ) ⟨a,b,none,rfl,rfl,rfl⟩ ?_ ?_
   · rintro σ H2 ⟨x,y,v,rfl,hg,rfl⟩;refine ⟨_,rfl,rfl,_,rfl,?_⟩
     by_cases hb:y=0
     · subst hb;refine R8 (by rfl) ?_;refine ⟨_,rfl,?_⟩;rw[Nat.gcd_zero_right] at hg;rw[hg];exact q
     · have hb':¬V.int (y:Int)=V.int 0:=fun z=>hb (by have:=V.int.inj z;omega)
       rw[decide_eq_false hb'];refine A8 ?_;refine ⟨_,rfl,_,rfl,_,_,rfl,rfl,(by show (0:Int) < (y:Int);omega),_,rfl,_,rfl,⟨y,x%y,some (.int ((x:Int)%(y:Int))),?_,?_,rfl⟩,?_⟩
       · rw[ei1];rfl
       · rw[<-hg,et8 x y,Nat.gcd_rec y x,et8]
       · show ((x:Int)%(y:Int)).toNat < ((y:Int)).toNat;have:=ei5 (x:Int) (show (0:Int) < (y:Int) by omega);have:=eg6 (x:Int) (show (y:Int)≠0 by omega);omega
   · rintro σ H2 Q Q' hq ⟨v,hv,e1,k1,e2,e3⟩;exact ⟨v,hv,e1,k1,e2,hq _ _ e3⟩
theorem cd0:m9 ["p"] ["p"] (j6 ao0):=by rfl'
theorem bf5:(["one"]:List Str).Nodup:=by decide+kernel
theorem cd1 {f:Addr}{fd:FuncData}(F:x6 K "_law_kind" "_law_kind" ao0 f fd)(B:Bl mg)(zvx:m8 P w K mg base "_law_rounds" 1 ["p"] J0):n5 P w K mg base y7 2 f fd ["p"] R4:=by
 refine F.ok cd0 (fun vs H Q E h=> ?_) (fun cdv A outer s H vs Q E hr h=> ?_)
 · obtain ⟨a,p,rfl,⟨ha,tp,lp⟩,q⟩:=h;rfl
 · obtain ⟨a,p,rfl,⟨ha,tp,lp⟩,q⟩:=h;have zq:m7 1 _:=hr.mono (by decide);refine ⟨_,c8 (j5 (cs7 (bl9 B.sorted (c5 (G9 (N:=["one"]) (nl:=1) (fr:=[]) rfl .of (A0 (i7 zvx zq (c5 (pv 0) c6))) (fun _ _ _ _ _=>o7 (i:=0) bf5 rfl (Or.inl rfl)) (fun _ _ _ _ _=>B7) (fun _ _ _ _ _=>(ae0 K (by exact B.len) (c5 (pv 0) c6)))) c6)) (W1 (ci9 br0 j4)))),?_⟩;refine ⟨_,rfl,a,p,rfl,⟨ha,tp,lp⟩,fun l as rs H1 hl s1 h1l rows up fa nda nla=> ?_⟩;obtain ⟨bd,lrs⟩:=bh4 tp lp up;refine ⟨l,rfl,⟨_,i5.of h1l⟩,C0 (K:=K) (a:=l) (xs:=as.map V.ref) (fun i ys σ H2=>∃v:Option V,σ=[v]/\H2=H1/\ys=((rs.take i).map fun r=>(r.length:Int)).map V.int) ⟨none,rfl,rfl,rfl⟩ (fun i ys σ H2 _ zz=>by obtain ⟨_,_,e,_⟩:=zz;rw[e];exact i5.of h1l) ?_ ?_⟩
   · rintro i y ys σ H2 hi ⟨v,rfl,rfl,rfl⟩;rw[ec1] at hi
     cases hA:as[i]? with
     |none=>rw[hA] at hi;cases hi
     |some e=>
      rw[hA] at hi;cases hi;have hil:i < as.length:=(ec0.mp hA).1;have hri:rs[i]? =some (rs[i]'(by rw[<-rows.1];exact hil)):=eb9 _;generalize (rs[i]'(by rw[<-rows.1];exact hil))=r at hri;have he:=rows.2 i e r hA hri;refine ⟨_,rfl,e,_,rfl,.inl (i5.of he),p9 (by rw[eb8,eb8,ed3];omega),_,rfl,rfl,?_⟩;rw[n6 hri,ec3,ec3,eb8];rfl
   · rintro ys σ H2 ⟨v,rfl,rfl,rfl⟩ D hD;rw[eb8,rows.1,ee1];have s2:e8 H2 (i8 H2 D (.lst ((rs.map fun r=>(r.length:Int)).map V.int))):=e8.upd_new hD;have g2:(i8 H2 D (.lst ((rs.map fun r=>(r.length:Int)).map V.int))) D=some (.lst ((rs.map fun r=>(r.length:Int)).map V.int)):=c9;generalize (i8 H2 D (.lst ((rs.map fun r=>(r.length:Int)).map V.int)))=H3 at s2 g2 ⊢;refine ⟨D,_,rfl,i5.of g2,by rw[eb8];omega,fun ms l2 pm srt hl2=> ?_⟩;have s4:e8 H3 (i8 H3 l2 (.lst (ms.map V.int))):=e8.upd_new hl2;have g4:(i8 H3 l2 (.lst (ms.map V.int))) l2=some (.lst (ms.map V.int)):=c9;generalize (i8 H3 l2 (.lst (ms.map V.int)))=H4 at s4 g4 ⊢
     have ek:rs.map (fun r=>(r.length:Int))=C9 p:=by unfold C9;rw[<-up.eq]
     refine ⟨_,rfl,_,rfl,rfl,l2,_,rfl,i5.of g4,fun o ho=> ?_⟩;have s14:=s1.trans (s2.trans s4);refine q o ms.reverse _ (s14.free ho) (s14.upd_r (s14.free ho)) (by rw[<-ek];exact (List.reverse_perm _).trans pm) ?_ (fun x hx=>bd x (pm.mem_iff.mp (List.mem_reverse.mp hx))) (by rw[eq9,pm.length_eq,eb8];exact lrs) (by rw[c9,List.map_reverse]);exact List.pairwise_reverse.mpr srt
theorem aa1:m9 ["p","home","length"] ["p"] (j6 ao1):=by rfl'
theorem cd2 {f:Addr}{fd:FuncData}(F:x6 K "_law_home" "_law_home" ao1 f fd)(zrz:m8 P w K mg base "_law_kind" 2 ["p"] R4)(zk:m8 P w K mg base "_law_gcd" 1 ["one","other"] bf4):n5 P w K mg base y7 3 f fd ["p"] aa8:=by
 refine F.ok aa1 (fun vs H Q E h=> ?_) (fun cdv A outer s H vs Q E hr h=> ?_)
 · obtain ⟨a,p,rfl,⟨ha,tp,lp⟩,q⟩:=h;rfl
 · obtain ⟨a,p,rfl,⟨ha,tp,lp⟩,q⟩:=h;have zmz:m7 2 _:=hr.mono (by decide);have zdz:m7 1 _:=hr.mono (by decide)
   refine ⟨_,c7 (m6 (i:=1) aa1.nd rfl (Or.inl rfl) j4)
     (c7 (A7 PassesOwn.never rfl (A0 (i7 zrz zmz (c5 (pv 0) c6))) (o7 (i:=2) aa1.nd rfl (Or.inl rfl))
       (c8 (m6 (i:=1) aa1.nd rfl (Or.inl rfl) (q0 am8 (q0 O5 (pv 1) (pv 2)) (i7 zk zdz (c5 (pv 1) (c5 (pv 2) c6)))))))
     (c8 (j5 (pv 1)))),?_⟩
   refine ⟨_,rfl,a,p,rfl,⟨ha,tp,lp⟩,fun l ms H1 hl s1 pm srt bd lm h1l=> ?_⟩;refine ⟨l,rfl,⟨_,i5.of h1l⟩,E7 (K:=K) (a:=l) (xs:=ms.map V.int) (fun i σ H2=>∃(h:Nat) (v:Option V),σ=[some (.ref a),some (.int (h:Int)),v]/\H2=H1/\P7 ((ms.take i).map el8) h) ⟨1,none,rfl,rfl,P7.nil⟩ (fun i σ H2 _ zz=>by obtain ⟨_,_,_,e,_⟩:=zz;rw[e];exact i5.of h1l) ?_ ?_⟩
   · rintro i y σ H2 hi ⟨h,v,rfl,rfl,lc⟩;obtain ⟨z,hz,rfl⟩:=y9 hi;obtain ⟨z1,z2⟩:=bd z (ec4 hz);obtain ⟨zn,rfl⟩:=ef0 (show 0<=z by omega);have hpos:=lc.pos;have g0:0 < ee4 h zn:=ek5 _ hpos;have g1:ee4 h zn<=zn:=ej1 (by omega) (ek1 h zn);refine ⟨_,rfl,_,rfl,_,_,rfl,rfl,.inr ⟨by omega,by omega⟩,_,rfl,_,rfl,h,zn,rfl,_,_,rfl,rfl,⟨by omega,by omega⟩,?_⟩;refine ⟨es5 h zn,some (.int (zn:Int)),?_,rfl,?_⟩
     · have e:(h:Int)*(zn:Int)/(ee4 h zn:Int)=((es5 h zn:Nat):Int):=by
         unfold es5;rw[eq2,el2]
       show [some (V.ref a),some (V.int ((h:Int)*(zn:Int)/(ee4 h zn:Int))),some (V.int (zn:Int))]=_;rw[e]
     · rw[n6 hz,ec3];exact lc.snoc (by omega)
   · rintro σ H2 ⟨h,v,rfl,rfl,lc⟩;rw[eb8,ee1] at lc;exact ⟨_,rfl,q h H2 s1 (lc.perm (pm.symm.map _))⟩
def cm2:Sp:=fun vs H Q _=>∃(g:Addr),vs=[.ref g]/\B1 H g/\∀(m:Nat) (H':Hp),1<=m->m < 1000000000->B1 H' g->o5 g H H'->Q (.int (m:Int)) H'
theorem dd7:m9 ["deck"] ["deck"] (j6 bh3):=by rfl'
theorem dd8 {f:Addr}{fd:FuncData}(F:x6 K "_law_m" "_law_m" bh3 f fd)(zxz:m8 P w K mg base "_law_take" 1 ["deck","many"] ak5):n5 P w K mg base y7 2 f fd ["deck"] cm2:=by
 refine F.ok dd7 (fun vs H Q E h=> ?_) (fun cdv A outer s H vs Q E hr h=> ?_)
 · obtain ⟨g,rfl,hg,q⟩:=h;rfl
 · obtain ⟨g,rfl,hg,q⟩:=h;have zwx:m7 1 _:=hr.mono (by decide)
   refine ⟨_,c7 (o6 (j9 y8 (i7 zxz zwx (c5 (pv 0) (c5 j4 c6))) j4 (j8 _)) (c8 (j5 (q0 Q4 j4 (q0 K6 (q0 O5 (i7 zxz zwx (c5 (pv 0) (c5 j4 c6))) j4) j4)))) k7)
     (c8 (j5 (q0 Q4 j4 (i7 zxz zwx (c5 (pv 0) (c5 j4 c6)))))),?_⟩
   refine ⟨_,rfl,g,4,rfl,hg,by decide,fun r H1 r0 r1 D1 kb1=>⟨rfl,_,rfl,?_⟩⟩
   refine Y8 (fun c1=> ?_) fun c1=> ?_
   · refine ⟨_,rfl,g,64,rfl,D1,by decide,fun x H2 x0 x1 D2 kb2=> ?_⟩;refine ⟨_,_,rfl,rfl,.inr ⟨by omega,by omega⟩,_,_,rfl,rfl,(show (0:Int) < 999999999 by decide),_,_,rfl,rfl,?_⟩;have y0:=eg6 (x*15624001) (show (999999999:Int)≠0 by decide);have y1:=ei5 (x*15624001) (show (0:Int) < 999999999 by decide);obtain ⟨n,hn⟩:=ef0 (show 0<=1+x*15624001%999999999 by omega);have:=q n H2 (by omega) (by omega) D2 (kb1.trans kb2);rw[<-hn] at this;exact this
   · refine ⟨_,rfl,g,30,rfl,D1,by decide,fun x H2 x0 x1 D2 kb2=>⟨_,_,rfl,rfl,?_⟩⟩;obtain ⟨n,hn⟩:=ef0 (show 0<=1+x by omega);have:=q n H2 (by omega) (by omega) D2 (kb1.trans kb2);rw[<-hn] at this;exact this
def ba7:Sp:=fun vs H Q _=>∃(g a:Addr) (p:List Int),vs=[.ref g,.ref a]/\B1 H g/\r9 H a p/\a≠g/\∀(l:Addr) (t:List Int) (H':Hp),H l=none->A1 t->t.length<=40->H' l=some (.lst (t.map V.int))->B1 H' g->o5 g H H'->Q (.ref l) H'
theorem J7:m9 ["deck","p","way","left","names","found","thing"] ["deck","p"] (j6 af2):=by rfl'
theorem Y1:(["thing","left","deck"]:List Str).Nodup:=by decide+kernel
theorem al0:(["thing","p"]:List Str).Nodup:=by decide+kernel
theorem bp6 {f:Addr}{fd:FuncData}(F:x6 K "_law_second" "_law_second" af2 f fd)(B:Bl mg)(zxz:m8 P w K mg base "_law_take" 1 ["deck","many"] ak5)(zky:m8 P w K mg base "_law_turn" 2 ["deck","most"] av6)(zmy:m8 P w K mg base "_law_power" 2 ["p","k"] be4):n5 P w K mg base y7 3 f fd ["deck","p"] ba7:=by
 refine F.ok J7 (fun vs H Q E h=> ?_) (fun cdv A outer s H vs Q E hr h=> ?_)
 · obtain ⟨g,a,p,rfl,D0,⟨ha,tp,lp⟩,nag,q⟩:=h;rfl
 · obtain ⟨g,a,p,rfl,D0,⟨ha,tp,lp⟩,nag,q⟩:=h;have zwx:m7 1 _:=hr.mono (by decide);have yz:m7 2 _:=hr.mono (by decide);have zbz:m7 2 _:=hr.mono (by decide)
   refine ⟨_,c7 (m6 (i:=2) J7.nd rfl (Or.inl rfl) (i7 zxz zwx (c5 (pv 0) (c5 j4 c6))))
     (c7 (o6 (j9 y8 (pv 2) j4 (j8 _)) (c8 (j5 (i7 zky yz (c5 (pv 0) (c5 (cf3 rfl B.max (c5 j4 (c5 (x9 B.len (c5 (pv 1) c6)) c6))) c6))))) k7)
     (c7 (o6 (j9 y8 (pv 2) j4 (j8 _)) (c8 (j5 (i7 zmy zbz (c5 (pv 1) (c5 (q0 bq9 (i7 zxz zwx (c5 (pv 0) (c5 j4 c6))) j4) c6))))) k7)
     (c7 (m6 (i:=3) J7.nd rfl (Or.inr rfl) (bc6 rfl B.list B.range (c5 (x9 B.len (c5 (pv 1) c6)) c6)))
     (c7 (bg4 (i:=4) J7.nd rfl (Or.inl rfl) (N:=["thing","left","deck"]) (nl:=1) (fr:=[3,0]) rfl .of (A0 (pv 1)) (fun _ _ _ _ _=>o7 (i:=0) Y1 rfl (Or.inl rfl)) (fun _ _ _ _ _=>B7) (fun _ _ _ _ _=>(bm4 K (pv 1) (c5 (i7 zxz zwx (c5 (pv 2) (c5 (ae0 K (by exact B.len) (c5 (pv 1) c6)) c6))) c6))))
     (c7 (m6 (i:=5) J7.nd rfl (Or.inl rfl) (q0 ar2 (A6 (c5 j4 c6)) (x9 B.len (c5 (pv 1) c6))))
     (c7 (A7 PassesOwn.never rfl (K2 (by rfl) B.range (c5 (x9 B.len (c5 (pv 1) c6)) c6)) (o7 (i:=6) J7.nd rfl (Or.inl rfl))
       (c8 (ad3 (p8 o0 (pv 4) (p8 o0 (pv 1) (pv 6) (fun _ _=>rfl)) (fun _ _=>rfl)) (ad2 (pv 5) (p8 o0 (pv 4) (pv 6) (fun _ _=>rfl)) V3))))
     (c7 (o6 (cn7 (j9 y8 (pv 2) j4 (j8 _)) (cd9 (j9 au1 (x9 B.len (c5 (pv 1) c6)) j4 (j8 _)))).pt (c8 (bg4 (i:=5) J7.nd rfl (Or.inl rfl) (N:=["thing","p"]) (nl:=1) (fr:=[1]) rfl .of (A0 (pv 5)) (fun _ _ _ _ _=>o7 (i:=0) al0 rfl (Or.inl rfl)) (fun _ _ _ _ _=>B7) (fun _ _ _ _ _=>(p8 (r:=br3 K) o0 (pv 1) (pv 0) (fun _ _=>rfl))))) k7)
     (c8 (j5 (pv 5)))))))))),?_⟩
   refine ⟨_,rfl,g,5,rfl,D0,by decide,fun wy H1 w0 w1 D1 kb1=> ?_⟩;have h1a:=kb1 _ _ ha nag;refine ⟨_,rfl,rfl,_,rfl,?_⟩
   refine Y8 (fun c1=> ?_) fun c1=> ?_
   · refine ⟨_,rfl,_,rfl,a,_,rfl,.inl (i5.of h1a),_,_,rfl,?_⟩
     obtain ⟨mx,hmx,mx1,mx2⟩:∃mx:Nat,(if ((p.map V.int).length:Int) > 1 then ((p.map V.int).length:Int) else 1)=(mx:Int)/\1<=mx/\mx<=40:=by
       rw[eb8]
       by_cases z:(p.length:Int) > 1
       · exact ⟨p.length,if_pos z,by omega,lp⟩
       · exact ⟨1,if_neg z,by decide,by decide⟩
     rw[hmx]
     exact ⟨g,mx,rfl,D1,mx2,fun l t H2 hl tt lt h2 D2 kb2=>q l t H2 (by
       cases z:H l with
       |none=>rfl
       |some o=>
        by_cases y:l=g
        · obtain ⟨o',e⟩:=D1.some;rw[y,e] at hl;cases hl
        · rw[kb1 _ _ z y] at hl
          cases hl) tt lt h2 D2 (kb1.trans kb2)⟩
   · refine ⟨_,rfl,rfl,_,rfl,?_⟩
     refine Y8 (fun c2=> ?_) fun c2=> ?_
     · refine ⟨_,rfl,_,rfl,g,30,rfl,D1,by decide,fun x H2 x0 x1 D2 kb2=>⟨_,_,rfl,rfl,?_⟩⟩;have kb02:=kb1.trans kb2;refine ⟨a,p,x - 9,rfl,⟨kb02 _ _ ha nag,tp,lp⟩,fun l t H3 hl s3 pw h3=> ?_⟩;have nlg:l≠g:=D2.ne hl;exact q l t H3 (kb02.free hl nlg) (cf5 tp pw) (by rw[pw.1];exact lp) h3 (D2.same s3) (kb02.trans (s3.but g))
     · have em:(p.map V.int).length=p.length:=eb8 ..;refine ⟨_,rfl,a,_,rfl,.inl (i5.of h1a),_,rfl,fun r hr'=> ?_⟩;rw[em];obtain ⟨H4,e4⟩:∃Hn,Hn=i8 H1 r (.rng 0 (p.length:Int)):=⟨_,rfl⟩;have s4:e8 H1 H4:=e4▸e8.upd_new hr'
       have h4r:H4 r=some (.rng 0 (p.length:Int)):=by rw[e4,c9]
       rw[<-e4];refine ⟨r,0,(p.length:Int),rfl,h4r,⟨by decide,by decide,by omega,by omega⟩,by omega,fun lf hlf=> ?_⟩
       have e0:((p.length:Int) - 0).toNat=p.length:=by omega
       rw[e0];obtain ⟨H5,e5⟩:∃Hn,Hn=i8 H4 lf (.lst ((Q5 0 p.length).map V.int)):=⟨_,rfl⟩;have s5:e8 H4 H5:=e5▸e8.upd_new hlf
       have h5f:H5 lf=some (.lst ((Q5 0 p.length).map V.int)):=by rw[e5,c9]
       rw[<-e5];have D5:=(D1.same s4).same s5;have nfg:lf≠g:=(D1.same s4).ne hlf;have h5a:=s5 _ _ (s4 _ _ h1a);have naf:a≠lf:=i4 (s4 _ _ h1a) hlf;have hlf0:H lf=none:=kb1.free (s4.free hlf) nfg;have kb5:o5 g H H5:=kb1.trans ((s4.trans s5).but g)
       refine ⟨_,rfl,a,rfl,⟨_,i5.of h5a⟩,C0 (K:=K) (a:=a) (xs:=p.map V.int) (fun j ys σ H9=>∃(v:Option V) (os ms':List Int),σ=[v,some (.ref lf),some (.ref g)]/\ys=os.map V.int/\os.length=j/\H9 lf=some (.lst (ms'.map V.int))/\(os++ms').Perm (Q5 0 p.length)/\B1 H9 g/\∀b o,H5 b=some o->b≠g->b≠lf->H9 b=some o)
         ⟨none,[],_,rfl,rfl,rfl,h5f,List.Perm.refl _,D5,fun b o h _ _=>h⟩ (fun j ys σ H9 _ zz=>by obtain ⟨_,_,_,_,_,_,_,_,_,kp⟩:=zz;exact i5.of (kp _ _ h5a nag naf)) ?_ ?_⟩
       · rintro j x ys σ H9 hj ⟨v,os,ms',rfl,rfl,lo,h9f,pm9,D9,kp9⟩
         have hj':j < p.length:=by
           have:=(ec0.mp hj).1;rw[em] at this;exact this
         have lms:os.length+ms'.length=p.length:=by
           have:=pm9.length_eq;rw[ec2,E2] at this;exact this
         have em':(ms'.map V.int).length=ms'.length:=eb8 ..;refine ⟨_,rfl,.inl ⟨rfl,_,i5.of h9f⟩,_,rfl,_,rfl,lf,_,rfl,.inl (i5.of h9f),g,_,rfl,D9,(by rw[em'];omega),fun x H10 x0 x1 D10 kb10=> ?_⟩;rw[em'] at x1;obtain ⟨jn,rfl⟩:=ef0 x0
         have hjl:jn < ms'.length:=by omega
         have h10f:=kb10 _ _ h9f nfg;refine ⟨lf,_,_,jn,.int ms'[jn],rfl,rfl,h10f,by omega,by omega,?_,by rw[ec1,eb9 hjl];rfl,p9 (by rw[eb8];omega),?_⟩
         · have:U1 (ms'.map V.int).length (jn:Int)=some jn:=by
             unfold U1;rw[em',if_pos (by omega),if_pos (by omega)];simp
           exact (au4 this).1
         · refine ⟨_,os++[ms'[jn]],ms'.eraseIdx jn,rfl,by rw[ec3];rfl,by rw[ec2,lo];rfl,by rw[c9,at5],?_,D10.upd nfg.symm,fun b o hb h1 h2=>by rw[i6 h2];exact kb10 b o (kp9 b o hb h1 h2) h1⟩;have pe:=am3 (l:=ms') (k:=jn) (eb9 hjl);refine List.Perm.trans ?_ pm9;rw[ee7];exact List.Perm.append_left os pe
       · rintro ys σ H9 ⟨v,os,ms',rfl,rfl,lo,h9f,pm9,D9,kp9⟩ oa hoa;rw[em] at lo
         have lms:os.length+ms'.length=p.length:=by
           have:=pm9.length_eq;rw[ec2,E2] at this;exact this
         have:ms'=[]:=eh7.mp (by omega);subst this;rw[ef4] at pm9;obtain ⟨tO,lO⟩:=U4 pm9;obtain ⟨H10,e10⟩:∃Hn,Hn=i8 H9 oa (.lst (os.map V.int)):=⟨_,rfl⟩;have s10:e8 H9 H10:=e10▸e8.upd_new hoa
         have h10o:H10 oa=some (.lst (os.map V.int)):=by rw[e10,c9]
         rw[<-e10];have noag:oa≠g:=D9.ne hoa
         have kb9:o5 g H H9:=fun b o hb h1=>kp9 b o (kb5 b o hb h1) h1 (fun z=>by rw[z,hlf0] at hb;cases hb)
         have D10:=D9.same s10;have kb10:=kb9.trans (s10.but g);have h10a:=s10 _ _ (kp9 _ _ h5a nag naf);refine ⟨(show 1<=sizeLine by decide),fun z hz=> ?_⟩;obtain ⟨H11,e11⟩:∃Hn,Hn=i8 H10 z (.lst [V.int 0]):=⟨_,rfl⟩;have s11:e8 H10 H11:=e11▸e8.upd_new hz
         have h11z:H11 z=some (.lst [V.int 0]):=by rw[e11,c9]
         rw[<-e11];refine ⟨_,rfl,a,_,rfl,.inl (i5.of (s11 _ _ h10a)),z,_,_,rfl,rfl,h11z,by omega,by omega,eh9 (p9 (by simp;omega)),fun fo hfo=> ?_⟩
         have erep:(ed1 ((p.map V.int).length:Int).toNat [V.int 0]).flatten=(ed1 p.length (0:Int)).map V.int:=by
           rw[em,ed7,ej6,er5]
         rw[erep];obtain ⟨H12,e12⟩:∃Hn,Hn=i8 H11 fo (.lst ((ed1 p.length (0:Int)).map V.int)):=⟨_,rfl⟩;have s12:e8 H11 H12:=e12▸e8.upd_new hfo
         have h12f:H12 fo=some (.lst ((ed1 p.length (0:Int)).map V.int)):=by rw[e12,c9]
         rw[<-e12];have s02:=s11.trans s12
         have nfoa:fo≠oa:=fun y=>by rw[y,s11 _ _ h10o] at hfo;cases hfo
         have nfoA:a≠fo:=i4 (s11 _ _ h10a) hfo;have nfog:fo≠g:=(D10.same s11).ne hfo;have hfo0:H fo=none:=kb10.free (s11.free hfo) nfog;have D12:=D10.same s02;have kb12:=kb10.trans (s02.but g);have h12a:=s02 _ _ h10a;have h12o:=s02 _ _ h10o
         have bdO:∀x∈os,0<=x/\x < (p.length:Int):=fun x hx=>by
           have:=I0.mp (pm9.mem_iff.mp hx);omega
         have ndO:os.Nodup:=pm9.nodup_iff.mpr (N0 _)
         have bdP:∀j,j < p.length->0<=p.getD j 0/\(p.getD j 0).toNat < p.length:=fun j hj=>by
           have hm:p.getD j 0∈p:=by rw[B0 hj];exact ee5 _
           have:=tp.lo _ hm;have:=tp.hi _ hm;omega
         refine ⟨_,rfl,a,_,rfl,.inl (i5.of h12a),_,rfl,by rw[em];omega,by rw[em];omega,M7 (lo:=0) (n:=((p.map V.int).length:Int).toNat) (fun j σ H13=>∃(fs:List Int) (v6:Option V),σ=[some (.ref g),some (.ref a),some (.int wy),some (.ref lf),some (.ref oa),some (.ref fo),v6]/\H13 fo=some (.lst (fs.map V.int))/\fs.length=p.length/\(∀u,u < j->A4 fs (os.getD u 0)=some (os.getD (p.getD u 0).toNat 0))/\B1 H13 g/\o5 fo H12 H13)
           ⟨_,none,rfl,h12f,ei3,(fun u hu=>by omega),D12,o5.refl _ _⟩ ?_ ?_⟩
         · rintro j σ H13 hj ⟨fs,v6,rfl,h13f,fl,st,D13,kf13⟩;rw[em] at hj
           have hjl:j < p.length:=by omega
           have h13a:=kf13 _ _ h12a nfoA;have h13o:=kf13 _ _ h12o nfoa.symm;obtain ⟨b0,b1⟩:=bdP j hjl;have hv:=bdO (os.getD j 0) (by rw[B0 (by omega)];exact ee5 _);refine ⟨_,rfl,_,rfl,_,rfl,a,_,_,_,rfl,rfl,i5.of h13a,ay4 hjl,oa,_,_,_,rfl,rfl,i5.of h13o,M3 b0 (by omega),_,rfl,_,rfl,_,rfl,oa,_,_,_,rfl,rfl,i5.of h13o,ay4 (by omega),fo,_,_,(os.getD j 0).toNat,rfl,rfl,h13f,?_,?_⟩
           · unfold U1;rw[eb8,fl,if_pos hv.1,if_pos hv.2]
           rw[<-ep4];refine ⟨_,_,rfl,c9,by rw[el1];exact fl,fun u hu=> ?_,D13.upd nfog.symm,fun b o hb nb=>by rw[i6 nb];exact kf13 _ _ hb nb⟩
           by_cases y:u=j
           · subst y;exact Z0 (by omega)
           · have hu':=bdO (os.getD u 0) (by rw[B0 (by omega)];exact ee5 _);rw[U5 hu'.1 hv.1 (S4 ndO (by omega) (by omega) y)];exact st u (by omega)
         · rintro σ H13 ⟨fs,v6,rfl,h13f,fl,st,D13,kf13⟩;rw[em] at st;have h13a:=kf13 _ _ h12a nfoA
           have qm:os.map (A4 fs)=(B4 os p).map some:=by
             refine ei4 fun u=> ?_
             unfold B4;rw[ec1,eh6,ec1]
             by_cases hu:u < p.length
             · rw[eb9 (show u < os.length by omega),eb9 hu];have:=st u (by omega);rw[B0 (show u < os.length by omega),B0 hu] at this;exact congrArg some this
             · rw[ed5 (by omega),ed5 (by omega)];rfl
           have tQ:=bs5 tO tp lO;have pf:=am2 tO (by omega) qm;have tF:A1 fs:=da6 pf tQ
           have kb13:o5 g H H13:=fun b o hb nb=>kf13 _ _ (kb12 _ _ hb nb) (fun y=>by rw[y,hfo0] at hb;cases hb)
           refine ⟨_,rfl,rfl,_,rfl,?_⟩
           refine Y8 (fun c3=>⟨_,rfl,a,_,rfl,.inl (i5.of h13a),_,_,rfl,rfl,_,rfl,?_⟩) fun c3=> ?_
           · refine Y8 (fun c4=> ?_) fun c4=> ?_
             · refine ⟨_,rfl,fo,rfl,⟨_,i5.of h13f⟩,C0 (K:=K) (a:=fo) (xs:=fs.map V.int) (fun i ys σ H14=>∃v,σ=[v,some (.ref a)]/\H14=H13/\ys=(B4 p (fs.take i)).map V.int) ⟨none,rfl,rfl,rfl⟩ (fun i ys σ H14 _ zz=>by obtain ⟨_,_,e,_⟩:=zz;rw[e];exact i5.of h13f) ?_ ?_⟩
               · rintro i x ys σ H14 hi ⟨v,rfl,rfl,rfl⟩;obtain ⟨z,hz,rfl⟩:=y9 hi;have hzq:=ec4 hz;refine ⟨_,rfl,_,rfl,a,_,z,_,rfl,rfl,i5.of h13a,M3 (tF.lo z hzq) (by have:=tF.hi z hzq;omega),?_,?_⟩
                 · refine p9 ?_;unfold B4;rw[eb8,eb8,ed3];omega
                 · refine ⟨_,rfl,rfl,?_⟩;rw[n6 hz];unfold B4;rw[ec3,ec3];rfl
               · rintro ys σ H14 ⟨v,rfl,rfl,rfl⟩ D hD;rw[eb8,ee1];have nDg:D≠g:=D13.ne hD;exact ⟨_,rfl,q D (B4 p fs) _ (kb13.free hD nDg) (bs5 tp tF (by omega)) (by rw[aw8];omega) c9 (D13.same (e8.upd_new hD)) (kb13.trans ((e8.upd_new hD).but g))⟩
             · exact ⟨_,rfl,q fo fs H13 hfo0 tF (by omega) h13f D13 kb13⟩
           · exact n9 ⟨_,rfl,q fo fs H13 hfo0 tF (by omega) h13f D13 kb13⟩
end
end My
namespace L2
open PySem PySem.Spec PyProof.Rows
def Ris (l:List Nat):Prop:=l.Pairwise (· < ·)
def Q0 (b:Bool)(t:SetTable):Prop:=t.led=b/\t.dummies= #[]/\Ris t.place.toList
theorem dd9 (xs:Array Nat)(j:Nat)(hr:Ris xs.toList):∀(f lo hi:Nat),hi - lo<=f->lo<=hi->hi<=xs.size->(∀i x,i < lo->xs[i]? =some x->x < j)->(∀i x,hi<=i->xs[i]? =some x->j<=x)->
   SetTable.below.go xs j f lo hi<=xs.size/\(∀i x,i < SetTable.below.go xs j f lo hi->xs[i]? =some x->x < j)/\(∀i x,SetTable.below.go xs j f lo hi<=i->xs[i]? =some x->j<=x):=by
 have mono:∀{i k x y:Nat},i<=k->xs[i]? =some x->xs[k]? =some y->x<=y:=fun {i k x y} h hx hy=>by
   by_cases e:i=k
   · subst e;rw[hx] at hy;exact et2 (Option.some.inj hy)
   · rw[<-ef2] at hx hy;obtain ⟨h1,e1⟩:=ec0.mp hx;obtain ⟨h2,e2⟩:=ec0.mp hy;have:=ef8.mp hr i k h1 h2 (by omega);omega
 intro f
 induction f with
 |zero=>
  intro lo hi h1 h2 h3 h4 h5
  have e:lo=hi:=by omega
  subst e;exact ⟨h3,h4,h5⟩
 |succ f ih=>
  intro lo hi h1 h2 h3 h4 h5;unfold SetTable.below.go
  by_cases c:lo < hi
  · rw[if_pos c]
    have hm:(lo+hi)/2 < xs.size:=by omega
    have em:xs[(lo+hi)/2]? =some xs[(lo+hi)/2]:=by simp [hm]
    have eg:xs.getD ((lo+hi)/2) j=xs[(lo+hi)/2]:=by simp [Array.getD,hm]
    by_cases c2:xs.getD ((lo+hi)/2) j < j
    · have c2':=c2;rw[eg] at c2';simp only[c2,if_true];refine ih _ _ (by omega) (by omega) h3 (fun i x hi' hx=> ?_) h5;exact el9 (mono (by omega) hx em) c2'
    · have c2':=c2;rw[eg] at c2';simp only[c2,if_false]
      refine ih _ _ (by omega) (by omega) (by omega) h4 fun i x hi' hx=> ?_
      exact ee0 (by omega) (mono hi' em hx)
  · rw[if_neg c]
    have e:lo=hi:=by omega
    subst e;exact ⟨h3,h4,h5⟩
theorem bz8 {xs:Array Nat}(hr:Ris xs.toList)(j:Nat):SetTable.below xs j<=xs.size/\(∀i x,i < SetTable.below xs j->xs[i]? =some x->x < j)/\(∀i x,SetTable.below xs j<=i->xs[i]? =some x->j<=x):=
 dd9 xs j hr xs.size 0 xs.size (by omega) (ee2 _) (ec6 _) (fun i x h=>absurd h (eu1 _)) fun i x h hx=>by
   rw[ep7 h] at hx;cases hx
theorem cm3 {xs:Array Nat}{j:Nat}(hr:Ris xs.toList)(hn:xs[SetTable.below xs j]? ≠some j):Ris (SetTable.insertAt xs (SetTable.below xs j) j).toList:=by
 obtain ⟨b1,b2,b3⟩:=bz8 hr j;rw[SetTable.toList_insertAt];have sp:xs.toList=xs.toList.take (SetTable.below xs j)++xs.toList.drop (SetTable.below xs j):=(ek9 _ _).symm;have hr':=hr;unfold Ris at hr';rw[sp,eq3] at hr'
 have lo:∀x∈xs.toList.take (SetTable.below xs j),x < j:=fun x hx=>by
   obtain ⟨i,hi⟩:=eh1.mp hx;rw[List.getElem?_take] at hi
   split at hi
   · rename_i c;exact b2 i x c (by rw[<-ef2];exact hi)
   · cases hi
 have up:∀x∈xs.toList.drop (SetTable.below xs j),j < x:=fun x hx=>by
   obtain ⟨i,hi⟩:=eh1.mp hx;rw[ek8] at hi
   have h1:xs[SetTable.below xs j+i]? =some x:=by rw[<-ef2];exact hi
   have h2:=b3 _ x (el7 _ _) h1
   refine Nat.lt_of_le_of_ne h2 fun e=>hn ?_
   subst e
   cases i with
   |zero=>exact h1
   |succ i=>
    obtain ⟨k1,k2⟩:=ec0.mp hi
    have k0:SetTable.below xs j < xs.toList.length:=by omega
    have:=ef8.mp hr _ _ k0 k1 (by omega);rw[k2] at this;have:=b3 (SetTable.below xs j) (xs.toList[SetTable.below xs j]) (ec6 _) (by rw[<-ef2];exact eb9 k0);omega
 exact eq3.mpr ⟨hr'.1,em0.mpr ⟨up,hr'.2.1⟩,fun x hx y hy=>by
   rcases ec8.mp hy with rfl|hy
   · exact lo x hx
   · exact Nat.lt_trans (lo x hx) (up y hy)⟩
theorem ci0 (j:Nat):SetTable.has #[] j=false:=by
 unfold SetTable.has;simp
theorem cx3 {t:SetTable}(hd:t.dummies= #[]){j:Nat}(h:t.slot j= .empty):t.place[SetTable.below t.place j]? ≠some j:=fun e=>by
 unfold SetTable.slot at h
 dsimp only at h
 rw[e] at h;simp at h
theorem bz9 {t:SetTable}(hd:t.dummies= #[])(j:Nat):t.slot j≠.dummy:=fun e=>by
 unfold SetTable.slot at e;rw[hd,ci0] at e
 dsimp only at e
 split at e<;>cases e
theorem cm4 {t:SetTable}(hd:t.dummies= #[])(ha:Nat->Int)(h:Int):∀(f:Nat) (p:SetTable.Probe) (j:Nat) (d:Option Nat),p.dummy=none->SetTable.probe.go t ha h f p=some (.empty j d)->d=none/\t.slot j= .empty:=by
 intro f
 have adv:∀p:SetTable.Probe,(t.advance p).dummy=p.dummy:=fun p=>by
   unfold SetTable.advance
   split<;>rfl
 induction f with
 |zero=>
  intro p j d _ e;unfold SetTable.probe.go at e;cases e
 |succ f ih=>
  intro p j d hp e;unfold SetTable.probe.go at e
  split at e
  · rename_i hs;cases e;exact ⟨hp,hs⟩
  · rename_i hs;exact absurd hs (bz9 hd _)
  · split at e
    · cases e
    · exact ih _ j d (by rw[adv];exact hp) e
theorem ac7 {b:Bool}{t:SetTable}(g:Q0 b t)(n:Nat):Q0 b (t.standIn n):=by
 refine ⟨g.1,rfl,?_⟩;show Ris (Array.range n).toList;rw[Array.toList_range];exact em5
theorem dm3 {b:Bool}{t:SetTable}(g:Q0 b t)(n:Nat):Q0 b (t.orStandIn n):=by
 unfold SetTable.orStandIn
 split
 · exact g
 · exact ac7 g n
theorem de0 {b:Bool}{t:SetTable}(g:Q0 b t)(es:Array (Int×Value))(h:Int)(x:Value):Q0 b (layNew t es h x).2.1:=by
 unfold layNew
 split
 · rename_i slot wd e;unfold SetTable.freeSlot at e
   split at e
   · rename_i j d e2;obtain ⟨h1,h2⟩:=cm4 g.2.1 _ _ _ _ j d rfl e2;subst h1;cases e;refine dm3 (t:=(t.put j).1) ⟨g.1,?_,cm3 g.2.2 (cx3 g.2.1 h2)⟩ _;show (if SetTable.has t.dummies _ then _ else t.dummies)= #[];rw[g.2.1,ci0];rfl
   · cases e
 · exact ac7 g _
theorem ca0 (f:Nat->Option Nat):∀l:List Nat,((l.filterMap fun j=>(f j).map (j,·)).map (·.1)).Sublist l
 |[]=>List.Sublist.slnil
 |j::l=>by
  have ih:=ca0 f l;rw[ei9]
  cases f j with
  |none=>exact ih.cons j
  |some k=>exact ih.cons₂ j
theorem cm5 {b:Bool}{t:SetTable}(g:Q0 b t)(es:Array (Int×Value))(n:Nat):Q0 b (relayAll t es n).2.1:=by
 unfold relayAll
 split
 · rename_i t' order e
   dsimp only
   split
   · unfold SetTable.relaid SetTable.laid at e;simp only[Option.bind_eq_bind,Option.bind_eq_some_iff,Option.pure_def,Option.some.injEq,Prod.mk.injEq] at e;obtain ⟨owner,_,e1,_⟩:=e;subst e1;refine ⟨g.1,rfl,?_⟩;exact List.Pairwise.sublist (ca0 _ _) em5
   · exact ac7 g _
 · exact ac7 g _
theorem de1 {b:Bool}{t:SetTable}(g:Q0 b t):Q0 b {t with plain:=false}:=g
end L2
namespace L2
open PySem PySem.Spec PyProof.Rows
section
variable {prog:Program} {w:World} {A:Around} {E:Value->Shared->Prop} {s:Shared} {b:Bool} {a:Addr} {S:Int->Bool} {n:Nat}
def P3 (prog:Program)(w:World)(b:Bool)(h:Heap)(a:Addr)(S:Int->Bool)(n:Nat):Prop:=∃(o:Obj) (es:Array (Int×Value)) (ep:Nat) (t:SetTable),h.get? a=some o/\o.ExactSet/\o.data= .set es ep t/\
 ElemsOf (intKind prog w) es.toList/\(∀k,S k=true↔∃e∈es.toList,(intKind prog w).is k e.2=true)/\es.size < scanBound/\t.fits es.size=true/\es.size=n/\Q0 b t
theorem P3.keep {h h':Heap}(x:P3 prog w b h a S n)(k:∀o,h.get? a=some o->h'.get? a=some o):P3 prog w b h' a S n:=by
 obtain ⟨o,es,ep,t,h1,r⟩:=x;exact ⟨o,es,ep,t,k o h1,r⟩
theorem P3.same {h:Heap}{S':Int->Bool}{n':Nat}(x:P3 prog w b h a S n)(e:∀k,S k=S' k)(en:n=n'):P3 prog w b h a S' n':=by
 have:S=S':=funext e;subst this en;exact x
theorem cx4 {h:Heap}{o:Obj}{es es':Array (Int×Value)}{ep:Nat}{t t':SetTable}{S':Int->Bool}(ho:h.get? a=some o)(hx:o.ExactSet)(hd:o.data= .set es ep t)(he:ElemsOf (intKind prog w) es'.toList)
   (hm:∀k,S' k=true↔∃e∈es'.toList,(intKind prog w).is k e.2=true) (hb:es'.size < scanBound) (hf:t'.fits es'.size=true) (g:Q0 b t'):
   (h.update a (Obj.putSet es' t')).get? a=some {o with data:= .set es' (ep+1) t'}/\P3 prog w b (h.update a (Obj.putSet es' t')) a S' es'.size:=by
 have q:=(SetOf_store (knd:=intKind prog w) ho hx hd he hm hb hf).1;exact ⟨q,_,_,_,_,q,hx,rfl,he,hm,hb,hf,rfl,g⟩
theorem dg7 {gv:Bool->Sem Unit}{o:Obj}{es es1:Array (Int×Value)}{ep:Nat}{t t2:SetTable}{S':Int->Bool}{wd:Bool}{R:Option Bool->Shared->Prop}(hg:∀(c:Bool) (s1:Shared) (Q':Unit->Shared->Prop),Q' () s1->wpAny (model prog w) A (gv c) Q' E s1)
   (ho:s.heap.get? a=some o) (hx:o.ExactSet) (hd:o.data= .set es ep t) (he:ElemsOf (intKind prog w) es1.toList) (hm:∀k,S' k=true↔∃e∈es1.toList,(intKind prog w).is k e.2=true) (hb:es1.size < scanBound) (hf:t2.fits es1.size=true) (g:Q0 b t2)
   (h:∀h',Heap.SameBut a s.heap h'->P3 prog w b h' a S' es1.size->R (some true) {s with heap:=h'}):
   wpAny (model prog w) A (do
     storeSet a es1 t2
     if (!wd&&t2.tooFull)=true then do
       gv (relayAll t2 es1 (SetTable.grown es1.size)).2.2
       storeSet a (relayAll t2 es1 (SetTable.grown es1.size)).1 (relayAll t2 es1 (SetTable.grown es1.size)).2.1
       pure (some true)
     else pure (some true)) R E s:=by
 obtain ⟨o1,G1⟩:=cx4 (b:=b) (S':=S') ho hx hd he hm hb hf g;have sb:=Heap.SameBut.update s.heap a (Obj.putSet es1 t2);refine wpAny_bind (wpAny_storeSet_of ho hd ?_ (fits_of_scanBound hb))
 split
 · have pm:=relayAll_perm t2 es1 (SetTable.grown es1.size);have ft:=relayAll_fits t2 es1 (SetTable.grown es1.size);have gd:=cm5 g es1 (SetTable.grown es1.size);generalize relayAll t2 es1 (SetTable.grown es1.size)=L at pm ft gd ⊢;obtain ⟨es2,t3,c⟩:=L
   dsimp only at pm ft gd ⊢
   have z2:es2.size=es1.size:=by
     have:=pm.length_eq
     rwa [ef5,ef5] at this
   have b2:es2.size < scanBound:=by omega
   have m2:∀k,S' k=true↔∃e∈es2.toList,(intKind prog w).is k e.2=true:=fun k=>by
     rw[hm k];exact ⟨fun ⟨e,y,q⟩=>⟨e,pm.mem_iff.mpr y,q⟩,fun ⟨e,y,q⟩=>⟨e,pm.mem_iff.mp y,q⟩⟩
   refine wpAny_bind (hg _ _ _ (wpAny_bind (wpAny_storeSet_of o1 rfl ?_ (fits_of_scanBound b2))));have G2:=(cx4 (b:=b) (S':=S') o1 hx rfl (he.perm pm) m2 b2 ft gd).2;rw[z2] at G2;exact wpAny_pure (h _ (sb.trans (Heap.SameBut.update _ a _)) G2)
 · exact wpAny_pure (h _ sb G1)
theorem ea2 {k:Int}{x:Value}{Q:Bool->Shared->Prop}(hk:(intKind prog w).is k x=true)(hs:x.scannable=true)(hS:P3 prog w b s.heap a S n)(hr:n+1 < scanBound)
   (h:∀h',Heap.SameBut a s.heap h'->P3 prog w b h' a (fun j=>S j||decide (j=k)) (if S k then n else n+1)->Q (!S k) {s with heap:=h'}):wpAny (model prog w) A (setAddHashed a x ((intKind prog w).hash k)) Q E s:=by
 obtain ⟨o,es,ep,t,ho,hx,hd,he,hm,hb,hf,hn,g⟩:=hS;unfold setAddHashed setAddHashedIn;refine wpAny_holding (wpAny_bind (wpAny_setState_of ho hd hf ?_))
 dsimp only
 rw[byScan_of hs hb he];simp only[if_true];unfold setAddByScan;refine wpAny_bind (wpAny_bind (wpAny_rule (wpAny_bind (wpAny_setScan_of hk ho hd hf he ?_))))
 cases hj:List.findIdx? (fun e=>(intKind prog w).is k e.2) es.toList with
 |some j=>
  obtain ⟨j1,j2,_⟩:=List.findIdx?_eq_some_iff_getElem.mp hj;have y:S k=true:=(hm k).mpr ⟨_,ee5 j1,j2⟩;refine wpAny_pure (wpAny_pure ?_);have q:=h s.heap (Heap.SameBut.refl a s.heap) ⟨o,es,ep,t,ho,hx,hd,he,fun i=> ?_,hb,hf,by rw[y];exact hn,g⟩
  · rw[y] at q;exact q
  · rw[<-hm i,eo5,decide_eq_true_iff];exact ⟨fun z=>z.elim id fun e=>by rw[e];exact y,Or.inl⟩
 |none=>
  have y:S k=false:=by
    cases z:S k with
    |false=>rfl
    |true=>
     obtain ⟨e,e1,e2⟩:=(hm k).mp z;have:=List.findIdx?_eq_none_iff.mp hj e e1;rw[e2] at this;cases this
  have pm:=layNew_perm t es ((intKind prog w).hash k) x;have ft:=layNew_fits t es ((intKind prog w).hash k) x;have gd:=de0 g es ((intKind prog w).hash k) x
  dsimp only
  generalize layNew t es ((intKind prog w).hash k) x=L at pm ft gd ⊢;obtain ⟨es1,t1,wd,c⟩:=L
  dsimp only at pm ft gd ⊢
  rw[es7] at pm
  have z1:es1.size=n+1:=by
    have:=pm.length_eq;rw[ef5,ec2,ef5] at this
    simpa [hn] using this
  have gw:∀(c:Bool) (s1:Shared) (Q':Unit->Shared->Prop),Q' () s1->wpAny (model prog w) A (match c with|true=>rule "set.scan.the-table-gave-way"|false=>pure ()) Q' E s1:=fun c s1 Q' q=>by
    cases c
    · exact wpAny_pure q
    · exact wpAny_rule q
  have fin:∀h',Heap.SameBut a s.heap h'->P3 prog w b h' a (fun j=>S j||decide (j=k)) es1.size->Q true {s with heap:=h'}:=fun h' sb G=>by
    have q:=h h' sb;rw[y] at q;rw[z1] at G;exact q G
  refine wpAny_bind (gw c _ _ ?_);have he1:=(he.push hk hs).perm pm;have hm1:=mem_push_iff hk hm pm
  have hb1:es1.size < scanBound:=by omega
  split
  · refine wpAny_bind ?_;rw[hashByValue_scannable 8 hs];refine wpAny_pure ?_;refine dg7 (b:=b) gw ho hx hd he1 hm1 hb1 ?_ ?_ ?_
    · split
      · exact ft
      · exact SetTable.fits_plain_off ft
    · split
      · exact gd
      · exact de1 gd
    · exact fun h' sb G=>wpAny_pure (fin h' sb G)
  · exact dg7 (b:=b) gw ho hx hd he1 hm1 hb1 ft gd fun h' sb G=>wpAny_pure (fin h' sb G)
end
end L2
namespace L2
open PySem PySem.Spec PyProof.Rows
section
variable {prog:Program} {w:World} {A:Around} {R:Result->Shared->Prop} {b:Bool} {I:Addr} {fp wr:List Addr} {Gn:Array GenState->Array GenState->Prop} {n:Nat} {Pv:Nat->Value->Prop} {St:Nat->Shared->Prop}
theorem dv9 (W:WalksS prog w A.in1 I fp wr Gn n Pv St)(D:Addr)(nD:D∉fp)(val:Nat->Int)(hv:∀i v,Pv i v->∃t,v= .int (val i) t)(hb:n+1 < scanBound):∀(k i:Nat) (s:Shared),n - i=k->i<=n->St i s->
   P3 prog w b s.heap D (fun j=>(firstMet val i).any (· ==j)) (firstMet val i).length->
   (∀s',Moved (D::wr) Gn s s'->P3 prog w b s'.heap D (fun j=>(firstMet val n).any (· ==j)) (firstMet val n).length->R (.ok (.ret .none)) s')->
   codeAny (model prog w) A (.builtin "set.update.loop" ⟨[.ref D,.ref I],[]⟩) R s:=by
 have nw:D∉wr:=fun z=>nD (W.sub _ z)
 have sub:∀c∈wr,c∈D::wr:=fun c hc=>ec9 _ hc
 intro k
 induction k with
 |zero=>
  intro i s e1 e2 st G hR
  obtain rfl:i=n:=by omega
  refine codeAny_builtin F.entry_set_update_loop ?_;rw[Around.under_plainId F.plain_set_update_loop _];show wpAny _ A.in1 (pyNext (.ref I) >>=_) _ _ s;refine wpAny_bind (W.done s _ _ st fun s1 mv=> ?_);exact wpAny_pure (hR s1 (mv.mono sub) (G.keep fun o y=>mv.heap D o nw y))
 |succ k ih=>
  intro i s e1 e2 st G hR
  have il:i < n:=by omega
  refine codeAny_builtin F.entry_set_update_loop ?_;rw[Around.under_plainId F.plain_set_update_loop _];show wpAny _ A.in1 (pyNext (.ref I) >>=_) _ _ s;refine wpAny_bind (W.item i s _ _ il st fun v s1 pv st1 mv=> ?_);obtain ⟨t,rfl⟩:=hv i v pv
  have G1:=G.keep (h':=s1.heap) fun o y=>mv.heap D o nw y
  show wpAny _ A.in1 (holding [Value.int (val i) t] (setAdd D (.int (val i) t)) >>=_) _ _ s1;refine wpAny_bind (wpAny_holding ?_);unfold setAdd;refine wpAny_holding (wpAny_bind ((intKind prog w).pyHash (k:=val i) (intKind_is _ _ _ _) ?_))
  refine ea2 (s:={s1 with toks:=s1.toks+1}) (intKind_is _ _ _ _) rfl G1 (by have:=firstMet_length_le val i;omega) fun h' sb G2=> ?_
  have G3:P3 prog w b h' D (fun j=>(firstMet val (i+1)).any (· ==j)) (firstMet val (i+1)).length:=G2.same (fun j=>by rw[firstMet_succ,step_any]) (by rw[firstMet_succ,step_length]);refine wpAny_pure ⟨plainId_quiet F.plain_set_update_loop _,ih (i+1) _ (by omega) il (W.frame _ s1 _ _ st1 (ek2 _) fun c hc o y=> ?_) G3 fun s2 mv2 G4=> ?_⟩
  · rw[sb.2 c fun z=>nD (z▸hc)];exact y
  · refine hR s2 (Moved.trans W.gtrans ((mv.mono sub).then_heap (ek2 _) fun c o hc y=> ?_) mv2) G4;rw[sb.2 c fun z=>hc (z▸ec5)];exact y
end
section
variable {prog:Program} {w:World} {A:Around} {E:Value->Shared->Prop} {s:Shared}
def P4 (w:World):Bool:= !w.params.followText "set-order"
def ag0 (b:Bool):Obj:={cls:= .type "set",dict:=none,data:= .set #[] 0 (.fresh 0 0 b)}
theorem ea3 (v:Value){Q:Value->Shared->Prop}(h:Q (.ref s.heap.objs.size) {s with heap:=s.heap.push (ag0 (P4 w))}):codeAny (model prog w) A (.call (.builtin "set.__new__") ⟨[.type "set",v],[]⟩) (wants Q E) s:=by
 refine codeAny_of_tree ?_;show wpAny _ A.in1 (checkBuiltinCall "set.__new__" ⟨[.type "set",v],[]⟩ >>=fun _=>again (.builtin "set.__new__" ⟨[.type "set",v],[]⟩)) _ _ s;refine wpAny_bind (wpAny_of_eq (F.newCall_set_1 v) (wpAny_pure ⟨plainId_quiet F.plain_set_new _,codeAny_builtin F.entry_set_new ?_⟩));rw[Around.under_plainId F.plain_set_new _];unfold Builtin.«set.__new__» Builtin.Frozenset.newClass;have hsub:=sub_set_self;obtain ⟨hp,g,d,tk,os⟩:=s
 dsimp only
 wp_walk
 refine wpAny_askSetting (wpAny_pure ?_)
 dsimp only
 simp only[newObj];exact wpAny_bind (wpAny_alloc (wpAny_pure (wpAny_pure h)))
end
end L2
namespace L2
open PySem PySem.Spec PyProof.Rows
section
variable {prog:Program} {w:World} {A:Around} {E:Value->Shared->Prop} {s:Shared}
theorem ds2 {h:Heap}{a:Addr}(e:h.get? a=some (ag0 (P4 w))):P3 prog w (P4 w) h a (fun _=>false) 0:=
 ⟨_,#[],0,_,e,⟨rfl,rfl,rfl⟩,rfl,(fun e he=>by simp at he),(fun k=>by simp),by decide,by rfl,rfl,rfl,rfl,List.Pairwise.nil⟩
set_option maxHeartbeats 3200000 in
theorem dw0 {l:Addr}{items:Array Value}{ns:List Int}{Q:Value->Shared->Prop}(hh:A.handled=none)(hl:s.heap.IsList l items)(hi:IntsAre items.toList ns)(hb:items.size+1 < scanBound)
   (h:∀(h':Heap) (tk:Nat),P3 prog w (P4 w) h' s.heap.objs.size (fun j=>(firstMet (fun i=>ns.getD i 0) items.size).any (· ==j)) (firstMet (fun i=>ns.getD i 0) items.size).length->
     (∀c o,c < s.heap.objs.size->s.heap.get? c=some o->h'.get? c=some o)->Q (.ref s.heap.objs.size) {s with heap:=h',toks:=tk}):wpAny (model prog w) A (call (.type "set") [.ref l]) Q E s:=by
 obtain ⟨c,tl,hmro⟩:=F.called_set.mro;have hmade:=F.called_set.made;have hsub:=F.called_set.sub;refine wpAny_call (codeAny_of_tree ?_);show wpAny _ _ (callAny (.type "set") _) _ _ _;refine wpAny_pure ⟨Code.quiet_builtin _ (by decide+kernel),codeAny_builtin F.entry_type_call ?_⟩;rw[Around.under_plain (weight_type_call_type "set" [.ref l] []) rfl];have h1:=F.called_set.notType;have h2:=F.called_set.canCreate;have hct:=F.typeCall_set_1 (.ref l)
 repeat (any_goals (first|assumption|wp_step))
 refine codeAny_mono (ea3 (w:=w) (.ref l) (E:=E) (Q:=fun v s1=>v= .ref s.heap.objs.size/\s1={s with heap:=s.heap.push (ag0 (P4 w))}) ⟨rfl,rfl⟩) fun r s1 hr=> ?_
 cases r with
 |error e=>exact hr
 |ok fl=>
  cases fl with
  |ret obj=>
   obtain ⟨rfl,rfl⟩:=hr;have hS:(s.heap.push (ag0 (P4 w))).get? s.heap.objs.size=some (ag0 (P4 w)):=Heap.get?_push_size _ rfl;have hT:Shared.TypeIs {s with heap:=s.heap.push (ag0 (P4 w))} (.ref s.heap.objs.size) "set":=⟨_,hS,rfl⟩;have hli:=F.called_set.init.lookup;have hbi:=F.called_set.init.bind (.ref s.heap.objs.size)
   repeat (any_goals (first|assumption|wp_step))
   refine codeAny_mono (codeAny_call_builtin (R:=wants (fun r s2=>r= .none/\∃h' tk,s2={s with heap:=h',toks:=tk}/\P3 prog w (P4 w) h' s.heap.objs.size (fun j=>(firstMet (fun i=>ns.getD i 0) items.size).any (· ==j)) (firstMet (fun i=>ns.getD i 0) items.size).length/\
       (∀c o,c < s.heap.objs.size->s.heap.get? c=some o->h'.get? c=some o)) E) F.called_set.init.plain F.entry_set_init (check_set_init_1 hT ?_)) fun r2 s2 hr2=> ?_
   · obtain ⟨ol,hol,hcl,nl,hdl⟩:=hl;obtain ⟨ocls,odict,odata,oslots⟩:=ol;simp only at hcl hdl;subst hcl hdl;have hol':(s.heap.push (ag0 (P4 w))).get? l=some {cls:= .type "list",dict:=odict,data:= .seq items nl,slots:=oslots}:=Heap.get?_push_of_some _ hol;have hsls:=F.sub_list_set;have hslf:=F.sub_list_frozenset
     have hne:(Value.type "list"==Value.type "dict")=false:=by decide
     have hl1:(s.heap.push (ag0 (P4 w))).IsList l items:=⟨_,hol',rfl,nl,rfl⟩;have lS:l < s.heap.objs.size:=Heap.lt_size hol;unfold Builtin.«set.__init__» noKeywords Builtin.Frozenset.updateFrom;generalize hPI:pyIter=PI
     wp_walk
     subst hPI;refine wpAny_pyIter_list hl1 (wpAny_bind (wpAny_runValue ?_))
     have h3:A.in1.in1.in1.handled=none:=by simp [hh]
     have zp:(s.heap.push (ag0 (P4 w))).objs.size=s.heap.objs.size+1:=Heap.size_push _ _
     have nI:l≠(s.heap.push (ag0 (P4 w))).objs.size:=by rw[zp];exact ed2 (ek0 lS)
     have nS:s.heap.objs.size∉[(s.heap.push (ag0 (P4 w))).objs.size,l]:=by
       rw[zp];intro z;simp only[ec8,eg4,or_false] at z
       rcases z with z|z
       · exact absurd z (ed2 (en9 _))
       · exact absurd z.symm (ed2 lS)
     refine dv9 (b:=P4 w) ((Walks.list h3 _ l nI items).toS) s.heap.objs.size nS (fun i=>ns.getD i 0) (fun i v hv=>IntsAre.int_at hi i v (by rw[ef2];exact hv)) hb (items.size - 0) 0 _ (by omega) (ee2 _) ⟨⟨_,Heap.get?_push_size _ rfl,rfl,rfl⟩,hl1.push _⟩ ?_ ?_
     · exact (ds2 (Heap.get?_push_of_some _ hS)).same (fun _=>rfl) rfl
     · intro s3 mv G;obtain ⟨h',g',d',tk',os'⟩:=s3;obtain rfl:g'=s.gens:=mv.gens;obtain rfl:d'=s.drawn:=mv.drawn;obtain rfl:os'=s.os:=mv.os;show wpAny _ _ _ _ _ _;refine wpAny_pure ?_;show wpAny _ _ (ret Value.none) _ _ _;refine wpAny_pure ⟨rfl,h',tk',rfl,G,fun c o hc y=>mv.heap c o (fun z=> ?_) (Heap.get?_push_of_some _ (Heap.get?_push_of_some _ y))⟩;rw[zp] at z;simp only[ec8,eg4,or_false] at z
       rcases z with z|z
       · exact absurd z (ed2 hc)
       · exact absurd z (ed2 (ek0 hc))
   · cases r2 with
     |error e=>exact hr2
     |ok f2=>
      cases f2 with
      |ret v=>
       obtain ⟨rfl,h',tk,rfl,G,k⟩:=hr2
       repeat (any_goals (first|assumption|wp_step))
       exact h _ _ G k
      |_=>exact hr2.elim
  |_=>exact hr.elim
end
end L2
namespace L2
open PySem PySem.Spec PyProof.Rows
theorem B6:Slot "set_iterator" "__next__" "set_iterator.__next__":=
 Slot.of (owner:="set_iterator") (n:="__next__") (by rw[typeLookup_type,builtinLookup_eq_fast];kernel_rfl) (by decide+kernel) (by decide+kernel) (by decide+kernel) (by first|exact .inl (by decide+kernel)|exact .inr (by decide+kernel)) (by rw[isSubtype_type];kernel_rfl)
theorem T7:entryFor table "set_iterator.__next__"=some Builtin.«set_iterator.__next__»:=entryFor_of_tree (by kernel_rfl)
theorem bn8:Manifest.owners.lookup (String.ofList ("set_iterator".toList))=some Manifest.sig_set_iterator:=by kernel_rfl
theorem U9 (v:Value):argsOk "set_iterator.__next__" ⟨[v],[]⟩:=by
 unfold argsOk;rw[signature?_of (id:="set_iterator.__next__") (n:="__next__".toList.reverse) (o:="set_iterator".toList.reverse) (by kernel_rfl) (by rw[List.reverse_reverse];exact bn8)]
 kernel_rfl
theorem bf6:entryFor table "set.__iter__"=some Builtin.«frozenset.__iter__»:=entryFor_alias (id':="frozenset.__iter__") (by kernel_rfl) rfl (by decide+kernel) (by kernel_rfl)
section
variable {prog:Program} {w:World} {A:Around} {E:Value->Shared->Prop} {s:Shared} {I a:Addr} {i n ep:Nat} {first:Value}
def SIt (h:Heap)(I a:Addr)(first:Value)(i n ep:Nat):Prop:=∃o,h.get? I=some o/\o.cls= .type "set_iterator"/\o.data= .fields #[first,.int i 0,.ref a,.int n 0,.int ep 0]
def W7 (h:Heap)(a:Addr)(es:Array (Int×Value))(ep:Nat)(t:SetTable):Prop:=∃o,h.get? a=some o/\o.ExactSet/\o.data= .set es ep t/\t.fits es.size=true
theorem W7.state {es:Array (Int×Value)}{t:SetTable}{Q:(Array (Int×Value)×Nat×SetTable)->Shared->Prop}(x:W7 s.heap a es ep t)(h:Q (es,ep,t) s):wpAny (model prog w) A (setState a) Q E s:=by
 obtain ⟨o,h1,h2,h3,h4⟩:=x;exact wpAny_setState_of h1 h3 h4 h
theorem bf7 {o:Obj}{xs:Array Value}{j:Nat}{v:Value}(h:s.heap.get? I=some o)(hc:o.cls= .type "set_iterator")(hd:o.data= .fields xs):∃o',(s.heap.update I (Obj.mapFields (·.setIfInBounds j v))).get? I=some o'/\o'.cls= .type "set_iterator"/\o'.data= .fields (xs.setIfInBounds j v):=
 ⟨_,Heap.get?_update_self _ h (Obj.isFreed_of_fields (Obj.data_mapFields hd _)),(Obj.cls_mapFields ..).trans hc,Obj.data_mapFields hd _⟩
theorem de2 {es:Array (Int×Value)}{t:SetTable}{sl nx:Nat}{x:Value}{Q:Option Value->Shared->Prop}(hI:SIt s.heap I a (.int sl 0) i n ep)(hs:W7 s.heap a es ep t)(hn:es.size=n)
   (hN:∀(A':Around) (E':Value->Shared->Prop) (Q':Option (Value×Nat)->Shared->Prop),Q' (some (x,nx)) s->wpAny (model prog w) A' (setNext a sl i ep) Q' E' s)
   (h:∀h',SIt h' I a (.int nx 0) (i+1) n ep->Heap.SameBut I s.heap h'->Q (some x) {s with heap:=h'}):wpAny (model prog w) A (pyNext (.ref I)) Q E s:=by
 obtain ⟨o,o1,o2,o3⟩:=id hI;have hTy:s.TypeIs (.ref I) "set_iterator":=⟨o,o1,o2⟩;unfold pyNext;refine wpAny_bind (wpAny_attempt (wpAny_callSpecial?_slot (name:=Str.ofString "__next__") hTy B6 (wpAny_call_entry B6 hTy T7 ?_ (U9 _))));unfold Builtin.«set_iterator.__next__»;refine wpAny_bind (m:=slotArgs "__next__" 0 _) (wpAny_pure ?_);refine wpAny_bind (wpAny_fieldsOf o1 o3 ?_);show wpAny _ _ (setEntries a >>=_) _ _ s;obtain ⟨q,q1,q2,q3,q4⟩:=id hs;refine wpAny_bind (wpAny_setEntries_of q1 q3 q4 ?_);rw[if_neg (by simp [hn])];show wpAny _ _ (setNext a (sl:Int).toNat (i:Int).toNat (ep:Int).toNat >>=_) _ _ s;rw[ed7,ed7,ed7];refine wpAny_bind (hN _ _ _ ?_);obtain ⟨p,p1,p2,p3⟩:=bf7 (s:=s) (j:=0) (v:=rawInt (nx:Int)) o1 o2 o3;show wpAny _ _ (setField (.ref I) 0 (rawInt (nx:Int)) >>=_) _ _ s;refine wpAny_bind (wpAny_setField o1 o3 (by simp) ?_);refine wpAny_bind (wpAny_setField p1 p3 (by simp) ?_);obtain ⟨r,r1,r2,r3⟩:=bf7 (s:={s with heap:=s.heap.update I (Obj.mapFields (·.setIfInBounds 0 (rawInt (nx:Int))))}) (j:=1) (v:=rawInt ((i:Int)+1)) p1 p2 p3;refine wpAny_pure ⟨_,rfl,wpAny_pure (h _ ⟨r,r1,r2,?_⟩ ((Heap.SameBut.update ..).trans (Heap.SameBut.update ..)))⟩;rw[r3];simp [rawInt]
theorem dg8 {Q:Option Value->Shared->Prop}{Q1:Fin->Shared->Prop}(hh:A.handled=none)(h:∀h',(∀c o,s.heap.get? c=some o->h'.get? c=some o)->Q none {s with heap:=h'}):
   wpAny (model prog w) A.in1 (newExc (.type "StopIteration") [] >>=raiseNew) Q1 (fun e s'=>wpAny (model prog w) A (isInstance e (.type "StopIteration") >>=fun y=>if y=true then pure none else throw e) Q E s') s:=by
 refine wpAny_bind ?_;simp only[newExc,newTuple];refine wpAny_bind (wpAny_newObj_type ?_ (by size_fits));refine wpAny_bind (m:=firstArgMember _ _) (wpAny_of_eq (a:=Value.none) (by first|rfl|(simp only[firstArgMember];rfl)) ?_);refine wpAny_newObj_type ?_ (by size_fits);simp only[raiseNew];refine wpAny_bind (wpAny_handled ?_);rw[show A.in1.handled=none from hh];refine wpAny_bind (wpAny_pure (wpAny_throw ?_));refine wpAny_bind (wpAny_isInstance (T:="StopIteration") (b:=true) ⟨_,Heap.get?_push_size _ rfl,rfl⟩ isSubtype_stop ?_);exact wpAny_pure (h _ fun c o e=>Heap.get?_push_of_some _ (Heap.get?_push_of_some _ e))
theorem cd3 {es:Array (Int×Value)}{t:SetTable}{sl:Nat}{Q:Option Value->Shared->Prop}(hh:A.handled=none)(hI:SIt s.heap I a (.int sl 0) i n ep)(hs:W7 s.heap a es ep t)(hn:es.size=n)
   (hN:∀(A':Around) (E':Value->Shared->Prop) (Q':Option (Value×Nat)->Shared->Prop),Q' none s->wpAny (model prog w) A' (setNext a sl i ep) Q' E' s)
   (h:∀h',(∀c o,c≠I->s.heap.get? c=some o->h'.get? c=some o)->Q none {s with heap:=h'}):wpAny (model prog w) A (pyNext (.ref I)) Q E s:=by
 obtain ⟨o,o1,o2,o3⟩:=id hI;have hTy:s.TypeIs (.ref I) "set_iterator":=⟨o,o1,o2⟩;unfold pyNext;refine wpAny_bind (wpAny_attempt (wpAny_callSpecial?_slot (name:=Str.ofString "__next__") hTy B6 (wpAny_call_entry B6 hTy T7 ?_ (U9 _))));unfold Builtin.«set_iterator.__next__»;refine wpAny_bind (m:=slotArgs "__next__" 0 _) (wpAny_pure ?_);refine wpAny_bind (wpAny_fieldsOf o1 o3 ?_);show wpAny _ _ (setEntries a >>=_) _ _ s;obtain ⟨q,q1,q2,q3,q4⟩:=id hs;refine wpAny_bind (wpAny_setEntries_of q1 q3 q4 ?_);rw[if_neg (by simp [hn])];show wpAny _ _ (setNext a (sl:Int).toNat (i:Int).toNat (ep:Int).toNat >>=_) _ _ s;rw[ed7,ed7,ed7];refine wpAny_bind (hN _ _ _ ?_);show wpAny _ _ (setField (.ref I) 2 .none >>=_) _ _ s;refine wpAny_bind (wpAny_setField o1 o3 (by simp) ?_)
 exact dg8 (s:={s with heap:=s.heap.update I (Obj.mapFields (·.setIfInBounds 2 Value.none))}) hh fun h' k=>h h' fun c o hc e=>k c o ((Heap.get?_update_other _ _ (Ne.symm hc)).trans e)
theorem de3 {es:Array (Int×Value)}{t:SetTable}{T:Addr}{pl:List Nat}{tk:Nat->Tok}{j:Nat}{e:Int×Value}{Q:Option Value->Shared->Prop}(hI:SIt s.heap I a (.ref T) i n ep)(hs:W7 s.heap a es ep t)(hn:es.size=n)
   (hT:∃m,s.heap.get? T=some (seqObj "tuple" (pl.map fun (x:Nat)=>rawInt (x:Int)).toArray m)) (hj:pl[i]? =some j) (he:es[j]? =some e)
   (h:∀h',SIt h' I a (.ref T) (i+1) n ep->Heap.SameBut I s.heap h'->Q (some e.2) {s with heap:=h'}):wpAny (model prog w) A (pyNext (.ref I)) Q E s:=by
 obtain ⟨o,o1,o2,o3⟩:=id hI;have hTy:s.TypeIs (.ref I) "set_iterator":=⟨o,o1,o2⟩;unfold pyNext;refine wpAny_bind (wpAny_attempt (wpAny_callSpecial?_slot (name:=Str.ofString "__next__") hTy B6 (wpAny_call_entry B6 hTy T7 ?_ (U9 _))));unfold Builtin.«set_iterator.__next__»;refine wpAny_bind (m:=slotArgs "__next__" 0 _) (wpAny_pure ?_);refine wpAny_bind (wpAny_fieldsOf o1 o3 ?_);show wpAny _ _ (setEntries a >>=_) _ _ s;obtain ⟨q,q1,q2,q3,q4⟩:=id hs;refine wpAny_bind (wpAny_setEntries_of q1 q3 q4 ?_);rw[if_neg (by simp [hn])];obtain ⟨m,hT⟩:=hT;show wpAny _ _ (seqItems? (.ref T) >>=_) _ _ s;refine wpAny_bind (wpAny_seqItems hT rfl ?_)
 have e1:((pl.map fun (x:Nat)=>rawInt (x:Int)).toArray)[(i:Int).toNat]? =some (rawInt (j:Int)):=by
   rw[ed7,List.getElem?_toArray,ec1,hj];rfl
 simp only[e1];show wpAny _ _ (setNextDrawn a (j:Int).toNat (ep:Int).toNat >>=_) _ _ s;rw[ed7,ed7];unfold setNextDrawn;refine wpAny_bind (wpAny_bind (hs.state ?_))
 dsimp only
 rw[if_neg (by simp)];rw[he];refine wpAny_pure ?_;refine wpAny_bind (wpAny_setField o1 o3 (by simp) ?_);obtain ⟨r,r1,r2,r3⟩:=bf7 (s:=s) (j:=1) (v:=rawInt ((i:Int)+1)) o1 o2 o3;refine wpAny_pure ⟨_,rfl,wpAny_pure (h _ ⟨r,r1,r2,?_⟩ (Heap.SameBut.update ..))⟩;rw[r3];simp [rawInt]
theorem cd4 {es:Array (Int×Value)}{t:SetTable}{T:Addr}{pl:List Nat}{Q:Option Value->Shared->Prop}(hh:A.handled=none)(hI:SIt s.heap I a (.ref T) i n ep)(hs:W7 s.heap a es ep t)(hn:es.size=n)
   (hT:∃m,s.heap.get? T=some (seqObj "tuple" (pl.map fun (x:Nat)=>rawInt (x:Int)).toArray m)) (hj:pl[i]? =none)
   (h:∀h',(∀c o,c≠I->s.heap.get? c=some o->h'.get? c=some o)->Q none {s with heap:=h'}):wpAny (model prog w) A (pyNext (.ref I)) Q E s:=by
 obtain ⟨o,o1,o2,o3⟩:=id hI;have hTy:s.TypeIs (.ref I) "set_iterator":=⟨o,o1,o2⟩;unfold pyNext;refine wpAny_bind (wpAny_attempt (wpAny_callSpecial?_slot (name:=Str.ofString "__next__") hTy B6 (wpAny_call_entry B6 hTy T7 ?_ (U9 _))));unfold Builtin.«set_iterator.__next__»;refine wpAny_bind (m:=slotArgs "__next__" 0 _) (wpAny_pure ?_);refine wpAny_bind (wpAny_fieldsOf o1 o3 ?_);show wpAny _ _ (setEntries a >>=_) _ _ s;obtain ⟨q,q1,q2,q3,q4⟩:=id hs;refine wpAny_bind (wpAny_setEntries_of q1 q3 q4 ?_);rw[if_neg (by simp [hn])];obtain ⟨m,hT⟩:=hT;show wpAny _ _ (seqItems? (.ref T) >>=_) _ _ s;refine wpAny_bind (wpAny_seqItems hT rfl ?_)
 have e1:((pl.map fun (x:Nat)=>rawInt (x:Int)).toArray)[(i:Int).toNat]? =none:=by
   rw[ed7,List.getElem?_toArray,ec1,hj];rfl
 simp only[e1];refine wpAny_bind (wpAny_setField o1 o3 (by simp) ?_);obtain ⟨r,r1,r2,r3⟩:=bf7 (s:=s) (j:=0) (v:=rawInt 0) o1 o2 o3;refine wpAny_bind (wpAny_setField r1 r3 (by simp) ?_)
 exact dg8 (s:={s with heap:=(s.heap.update I (Obj.mapFields (·.setIfInBounds 0 (rawInt 0)))).update I (Obj.mapFields (·.setIfInBounds 2 Value.none))}) hh fun h' k=>h h' fun c o hc e=>k c o ((Heap.get?_update_other _ _ (Ne.symm hc)).trans ((Heap.get?_update_other _ _ (Ne.symm hc)).trans e))
end
end L2
namespace L2
open PySem PySem.Spec PyProof.Rows
section
variable {prog:Program} {w:World} {A:Around} {E:Value->Shared->Prop} {s:Shared} {I a:Addr} {i n ep:Nat}
theorem ci1 {α:Type}(nx:Nat->Nat):∀(f k:Nat) (left:List α) (out:Array α),left.length=f->(pickOrder.go nx f k left out).toList.Perm (out.toList++left)
 |0,k,left,out,h=>by
  obtain rfl:=eh7.mp h;unfold pickOrder.go;rw[ef4]
 |f+1,k,left,out,h=>by
  have hl:nx k%left.length < left.length:=ei2 _ (by omega);unfold pickOrder.go;rw[eb9 hl]
  dsimp only
  refine (ci1 nx f (k+1) _ _ (by rw[List.length_eraseIdx];split<;>omega)).trans ?_;rw[es7,ee7];exact List.Perm.append_left _ (Mth.am3 (eb9 hl))
theorem cx5 {α:Type}(nx:Nat->Nat)(xs:Array α):(pickOrder nx xs).toList.Perm xs.toList:=by
 unfold pickOrder;exact ci1 nx xs.size 0 xs.toList #[] (by simp)
theorem aw0 {Q:Bool->Shared->Prop}(h:Q (w.params.followText "set-order") s):wpAny (model prog w) A setsByText Q E s:=by
 unfold setsByText;exact wpAny_bind (wpAny_askSetting (wpAny_pure h))
theorem ca1 {xs:Array Nat}(hr:Ris xs.toList){j m:Nat}(hm:m<=xs.size)(h1:∀k x,k < m->xs[k]? =some x->x < j)(h2:∀k x,m<=k->xs[k]? =some x->j<=x):SetTable.below xs j=m:=by
 obtain ⟨b1,b2,b3⟩:=bz8 hr j
 rcases es4 (SetTable.below xs j) m with z|z|z
 · have hl:SetTable.below xs j < xs.size:=by omega
   have e:xs[SetTable.below xs j]? =some xs[SetTable.below xs j]:=by simp [hl]
   have:=h1 _ _ z e;have:=b3 _ _ (ec6 _) e;omega
 · exact z
 · have hl:m < xs.size:=by omega
   have e:xs[m]? =some xs[m]:=by simp [hl]
   have:=h2 _ _ (ec6 _) e;have:=b2 _ _ z e;omega
def ap2 (t:SetTable)(i:Nat):Nat:=if i=0 then 0 else t.place.getD (i - 1) 0+1
theorem cm6 {t:SetTable}(hr:Ris t.place.toList){i:Nat}(hi:i<=t.place.size):SetTable.below t.place (ap2 t i)=i:=by
 unfold ap2
 by_cases z:i=0
 · subst z;rw[if_pos rfl]
   exact ca1 hr (ee2 _) (fun k x h=>absurd h (eu1 _)) fun _ _ _ _=>ee2 _
 · rw[if_neg z]
   have hl:i - 1 < t.place.size:=by omega
   have e:t.place.getD (i - 1) 0=t.place[i - 1]:=by simp [Array.getD,hl]
   rw[e]
   have mono:∀{k m x y:Nat},k < m->t.place[k]? =some x->t.place[m]? =some y->x < y:=fun {k m x y} h hx hy=>by
     rw[<-ef2] at hx hy;obtain ⟨h1,e1⟩:=ec0.mp hx;obtain ⟨h2,e2⟩:=ec0.mp hy;have:=ef8.mp hr k m h1 h2 h;omega
   have e1:t.place[i - 1]? =some t.place[i - 1]:=by simp [hl]
   refine ca1 hr hi (fun k x h hx=> ?_) fun k x h hx=> ?_
   · by_cases y:k=i - 1
     · subst y;rw[e1] at hx;cases hx;omega
     · have:=mono (by omega:k < i - 1) hx e1;omega
   · have:=mono (by omega:i - 1 < k) e1 hx;omega
theorem de4 {es:Array (Int×Value)}{t:SetTable}{sl:Nat}{Q:Option (Value×Nat)->Shared->Prop}(hb:w.params.followText "set-order"=true)(x:W7 s.heap a es ep t)(h:Q (((pickOrder (w.params.setOrder a ep) es)[i]?).map fun e=>(e.2,sl)) s):wpAny (model prog w) A (setNext a sl i ep) Q E s:=by
 unfold setNext;refine wpAny_bind (x.state (wpAny_bind (aw0 ?_)));rw[hb,if_pos rfl]
 dsimp only
 rw[if_neg (by simp)];refine wpAny_bind ?_;unfold setWalk
 refine x.state (wpAny_bind (aw0 ?_))|>fun z=>wpAny_bind z
 rw[hb,if_pos rfl];exact wpAny_bind (wpAny_askSetting (wpAny_pure (wpAny_pure h)))
theorem cx6 {es:Array (Int×Value)}{t:SetTable}{Q:Option (Value×Nat)->Shared->Prop}(hb:w.params.followText "set-order"=false)(x:W7 s.heap a es ep t)(hl:t.led=true)(hp:(!t.plain&&decide (es.size > 1))=false)(hr:Ris t.place.toList)(hi:i<=es.size)
   (h:Q ((es[i]?).map fun e=>(e.2,ap2 t (i+1))) s):wpAny (model prog w) A (setNext a (ap2 t i) i ep) Q E s:=by
 have zp:t.place.size=es.size:=by
   obtain ⟨_,_,_,_,f⟩:=x;unfold SetTable.fits at f;rw[ef7] at f;exact of_decide_eq_true f.1
 unfold setNext;refine wpAny_bind (x.state (wpAny_bind (aw0 ?_)));rw[hb,if_neg (by decide)];show wpAny _ _ (if (!t.plain&&decide (es.size > 1))=true then _ else _) _ _ s;rw[hp,if_neg (by decide)];show wpAny _ _ ((if (!t.led&& !es.isEmpty)=true then unsupported _ else pure ()) >>=_) _ _ s;rw[hl];refine wpAny_bind ?_;rw[if_neg (by simp)];refine wpAny_pure ?_
 dsimp only
 rw[cm6 hr (by omega)];refine wpAny_pure ?_
 by_cases z:i < es.size
 · have e1:es[i]? =some es[i]:=by simp [z]
   have e2:t.place[i]? =some t.place[i]:=by simp [zp,z]
   rw[e1] at h ⊢;rw[e2]
   have e3:ap2 t (i+1)=t.place[i]+1:=by
     unfold ap2;rw[if_neg (by omega),Nat.add_sub_cancel];simp [Array.getD,zp,z]
   rw[e3] at h;exact h
 · have e1:es[i]? =none:=ep7 (by omega);rw[e1] at h ⊢;exact h
theorem aq4:Slot "set_iterator" "__iter__" "set_iterator.__iter__":=
 Slot.of (owner:="set_iterator") (n:="__iter__") (by rw[typeLookup_type,builtinLookup_eq_fast];kernel_rfl) (by decide+kernel) (by decide+kernel) (by decide+kernel) (by first|exact .inl (by decide+kernel)|exact .inr (by decide+kernel)) (by rw[isSubtype_type];kernel_rfl)
theorem bj8:entryFor table "set_iterator.__iter__"=some Builtin.«dict_keyiterator.__iter__»:=entryFor_alias (id':="dict_keyiterator.__iter__") (by kernel_rfl) rfl (by decide+kernel) (by kernel_rfl)
theorem bp7 (v:Value):argsOk "set_iterator.__iter__" ⟨[v],[]⟩:=by
 unfold argsOk;rw[signature?_of (id:="set_iterator.__iter__") (n:="__iter__".toList.reverse) (o:="set_iterator".toList.reverse) (by kernel_rfl) (by rw[List.reverse_reverse];exact bn8)]
 kernel_rfl
theorem dg9 {first:Value}{Q:Value->Shared->Prop}(hI:SIt s.heap I a first i n ep)(h:Q (.ref I) s):wpAny (model prog w) A (pyIter (.ref I)) Q E s:=by
 obtain ⟨o,o1,o2,o3⟩:=hI;have hT:s.TypeIs (.ref I) "set_iterator":=⟨o,o1,o2⟩;refine wpAny_pyIter_slot hT aq4 (wpAny_call_entry aq4 hT bj8 ?_ (bp7 _));show wpAny _ _ (ret (.ref I)) _ _ s;exact wpAny_pure ⟨_,rfl,"set_iterator",_,hT,B6.lookup,h⟩
theorem SIt.at_ {h h':Heap}{first:Value}(x:SIt h I a first i n ep)(k:∀o,h.get? I=some o->h'.get? I=some o):SIt h' I a first i n ep:=by
 obtain ⟨o,o1,r⟩:=x;exact ⟨o,k o o1,r⟩
theorem W7.at_ {h h':Heap}{es:Array (Int×Value)}{t:SetTable}(x:W7 h a es ep t)(k:∀o,h.get? a=some o->h'.get? a=some o):W7 h' a es ep t:=by
 obtain ⟨o,o1,r⟩:=x;exact ⟨o,k o o1,r⟩
theorem dw1 {es:Array (Int×Value)}{t:SetTable}{vs:List Value}{sl:Nat->Nat}(hh:A.handled=none)(na:a≠I)(hn:es.size=n)(lv:vs.length=n)
   (hN:∀(i:Nat) (s:Shared) (A':Around) (E':Value->Shared->Prop) (Q':Option (Value×Nat)->Shared->Prop),i<=n->W7 s.heap a es ep t->Q' ((vs[i]?).map fun v=>(v,sl (i+1))) s->wpAny (model prog w) A' (setNext a (sl i) i ep) Q' E' s):
   Walks prog w A I [I,a] [I] n (fun i v=>vs[i]? =some v) (fun i h=>SIt h I a (.int (sl i) 0) i n ep/\W7 h a es ep t) where
 sub:=fun c hc=>by simp at hc;simp [hc]
 frame:=fun _ _ _ st k=>⟨st.1.at_ fun o e=>k I (by simp) o e,st.2.at_ fun o e=>k a (by simp) o e⟩
 item:=fun i s Q E hi st hQ=>by
   have hv:vs[i]? =some (vs[i]'(by omega)):=eb9 _;generalize vs[i]'(by omega)=v at hv
   refine de2 st.1 st.2 hn (x:=v) (nx:=sl (i+1)) (fun A' E' Q' q=>hN i s A' E' Q' (by omega) st.2 (by rw[hv];exact q)) fun h' y sb=> ?_
   exact hQ v h' s.toks hv ⟨y,st.2.at_ fun o e=>(sb.2 a na).trans e⟩ fun c o hc e=>(sb.2 c fun z=>hc (by simp [z])).trans e
 done:=fun s Q E st hQ=>by
   have hv:vs[n]? =none:=ed5 (by omega)
   refine cd3 hh st.1 st.2 hn (fun A' E' Q' q=>hN n s A' E' Q' (ec6 _) st.2 (by rw[hv];exact q)) fun h' k=> ?_
   exact hQ h' s.toks fun c o hc e=>k c o (fun z=>hc (by simp [z])) e
 self:=fun _ _ _ _ st hQ=>dg9 st.1 hQ
theorem dw2 {es:Array (Int×Value)}{t:SetTable}{pl:List Nat}{T:Addr}(hh:A.handled=none)(na:a≠I)(nT:T≠I)(hn:es.size=n)(lv:pl.length=n)(bd:∀j∈pl,j < n):
   Walks prog w A I [I,a,T] [I] n (fun i v=>((pl.map fun j=>(es[j]?).map (·.2))[i]?).join=some v) (fun i h=>SIt h I a (.ref T) i n ep/\W7 h a es ep t/\∃m,h.get? T=some (seqObj "tuple" (pl.map fun (x:Nat)=>rawInt (x:Int)).toArray m)) where
 sub:=fun c hc=>by simp at hc;simp [hc]
 frame:=fun _ _ _ st k=>⟨st.1.at_ fun o e=>k I (by simp) o e,st.2.1.at_ fun o e=>k a (by simp) o e,let ⟨m,e⟩:=st.2.2;⟨m,k T (by simp) _ e⟩⟩
 item:=fun i s Q E hi st hQ=>by
   have hj:pl[i]? =some (pl[i]'(by omega)):=eb9 _;have hb:=bd _ (ee5 (show i < pl.length by omega));generalize pl[i]'(by omega)=j at hj hb
   have he:es[j]? =some (es[j]'(by omega)):=by simp [hn,hb]
   generalize es[j]'(by omega)=e at he
   refine de3 (tk:=fun _=>0) st.1 st.2.1 hn st.2.2 hj he fun h' y sb=> ?_
   refine hQ e.2 h' s.toks ?_ ⟨y,st.2.1.at_ fun o e=>(sb.2 a na).trans e,let ⟨m,e⟩:=st.2.2;⟨m,(sb.2 T nT).trans e⟩⟩ fun c o hc e=>(sb.2 c fun z=>hc (by simp [z])).trans e
   rw[ec1,hj];show ((es[j]?).map (·.2))=_;rw[he];rfl
 done:=fun s Q E st hQ=>by
   refine cd4 hh st.1 st.2.1 hn st.2.2 (ed5 (by omega)) fun h' k=> ?_
   exact hQ h' s.toks fun c o hc e=>k c o (fun z=>hc (by simp [z])) e
 self:=fun _ _ _ _ st hQ=>dg9 st.1 hQ
theorem dm4 {n:Nat}{Q:Nat->Shared->Prop}(hn:0 < n)(h:∀i d,i < n->Q i {s with drawn:=d}):wpAny (model prog w) A (choose .order n) Q E s:=fun Γ p hΓ=>by
 show Sem.wp _ _ (Sem.choose _ _ _) _ _ _ _;rw[Sem.wp_choose];exact ⟨by omega,h _ _ (ei2 _ hn)⟩
theorem dh0 {α:Type}:∀(n:Nat) (xs:List α) (s:Shared) {Q:List α->Shared->Prop} (_:xs.length=n) (_:∀(l:List α) d,l.Perm xs->Q l {s with drawn:=d}),wpAny (model prog w) A (drawOrder n xs) Q E s
 |0,xs,s,Q,hl,h=>by
  obtain rfl:=eh7.mp hl;unfold drawOrder;exact wpAny_pure (h [] s.drawn (List.Perm.refl _))
 |n+1,x::xs,s,Q,hl,h=>by
  unfold drawOrder;refine wpAny_bind (dm4 (by simp) fun i d il=> ?_);rw[eb9 il];refine wpAny_bind (dh0 n _ {s with drawn:=d} (by rw[List.length_eraseIdx,if_pos il,hl];rfl) fun l d' pm=> ?_);exact wpAny_pure (h _ d' ((List.Perm.cons _ pm).trans (Mth.am3 (eb9 il))))
theorem dw3 {es:Array (Int×Value)}{t:SetTable}{Q:Value->Shared->Prop}(x:W7 s.heap a es ep t)(hz:es.size<=sizeLine)
   (h1:(!w.params.followText "set-order"&&(!t.plain&&decide (es.size > 1)))=false->Q (.ref s.heap.objs.size) {s with heap:=s.heap.push {cls:= .type "set_iterator",data:= .fields #[.int 0 0,.int 0 0,.ref a,.int es.size 0,.int ep 0]}})
   (h2:∀(pl:List Nat) d,pl.Perm (eh4 es.size)->Q (.ref (s.heap.objs.size+1)) {s with drawn:=d,heap:=(s.heap.push (seqObj "tuple" (pl.map fun (x:Nat)=>rawInt (x:Int)).toArray 0)).push {cls:= .type "set_iterator",data:= .fields #[.ref s.heap.objs.size,.int 0 0,.ref a,.int es.size 0,.int ep 0]}}):
   wpAny (model prog w) A (pyIter (.ref a)) Q E s:=by
 obtain ⟨o,o1,o2,o3,o4⟩:=id x;have hT:s.TypeIs (.ref a) "set":=⟨o,o1,o2.1⟩;refine wpAny_pyIter_slot hT PySem.F.slot_set_iter (wpAny_call_entry PySem.F.slot_set_iter hT bf6 ?_ (PySem.F.args_set_iter_1 _));unfold Builtin.«frozenset.__iter__»;refine wpAny_bind (m:=Builtin.Frozenset.slot0 "__iter__" _) (wpAny_pure ?_);unfold Builtin.Frozenset.sizeOf;refine wpAny_bind (wpAny_bind (wpAny_setEntries_of o1 o3 o4 (wpAny_pure ?_)));refine wpAny_bind ?_;unfold setDrawn
 refine x.state (wpAny_bind (aw0 ?_))|>fun z=>wpAny_bind z
 show wpAny _ _ (pure (!w.params.followText "set-order"&&(!t.plain&&decide (es.size > 1)))) _ _ s;refine wpAny_pure ?_
 cases hc:(!w.params.followText "set-order"&&(!t.plain&&decide (es.size > 1))) with
 |false=>
  rw[if_neg (by decide)];refine wpAny_bind (wpAny_pure ?_);refine wpAny_bind (wpAny_setEpoch_of o1 o3 o4 ?_);unfold newFields;refine wpAny_bind (wpAny_newObj_type (wpAny_pure ⟨_,rfl,"set_iterator",_,⟨_,Heap.get?_push_size _ rfl,rfl⟩,B6.lookup,?_⟩));exact h1 hc
 |true=>
  rw[if_pos rfl];refine wpAny_bind (dh0 es.size (eh4 es.size) s (eg9) fun pl d pm=> ?_);refine wpAny_bind (wpAny_newTuple (items:=pl.map fun (x:Nat)=>rawInt (x:Int)) ?_ (hsz:=by rw[eb8,pm.length_eq,eg9];exact hz));have k1:(s.heap.push {cls:= .type "tuple",data:= .seq ((pl.map fun (x:Nat)=>rawInt (x:Int))).toArray}).get? a=some o:=Heap.get?_push_of_some _ o1;refine wpAny_bind (wpAny_setEpoch_of (s:={s with drawn:=d,heap:=s.heap.push {cls:= .type "tuple",data:= .seq ((pl.map fun (x:Nat)=>rawInt (x:Int))).toArray}}) k1 o3 o4 ?_);unfold newFields;refine wpAny_bind (wpAny_newObj_type (wpAny_pure ⟨_,rfl,"set_iterator",_,⟨_,Heap.get?_push_size _ rfl,rfl⟩,B6.lookup,?_⟩));have:=h2 pl d pm;rw[Heap.size_push];exact this
end
end L2
namespace L2
open PySem PySem.Spec PyProof.Rows
section
variable {prog:Program} {w:World} {A:Around} {E:Value->Shared->Prop} {s:Shared} {d:Addr} {ep:Nat}
theorem ds3 {acc:Array Value}{vs:List Value}(hz:acc.size=vs.length)(h:∀(j:Nat) v,acc[j]? =some v->vs[j]? =some v):acc.toList=vs:=by
 refine ei4 fun j=> ?_
 by_cases hj:j < acc.size
 · have e:acc[j]? =some acc[j]:=by simp [hj]
   rw[ef2,e,h j _ e]
 · rw[ed5 (by rw[ef5];omega),ed5 (by omega)]
theorem ds4 {acc:Array Value}{es:Array (Int×Value)}{pl:List Nat}(pm:pl.Perm (eh4 es.size))(hz:acc.size=es.size)(h:∀(j:Nat) v,acc[j]? =some v->((pl.map fun j=>(es[j]?).map (·.2))[j]?).join=some v):acc.toList.Perm (es.toList.map (·.2)):=by
 have lp:pl.length=es.size:=by rw[pm.length_eq,eg9]
 have e:acc.toList.map some=pl.map fun j=>(es[j]?).map (·.2):=by
   refine ei4 fun j=> ?_
   by_cases hj:j < acc.size
   · have e:acc[j]? =some acc[j]:=by simp [hj]
     have q:=h j _ e;rw[ec1,ef2,e];rw[ec1] at q ⊢;rw[eb9 (by omega)] at q ⊢;exact congrArg some q.symm
   · rw[ed5 (by rw[eb8,ef5];omega),ed5 (by rw[eb8];omega)]
 have p2:=pm.map fun j=>(es[j]?).map (·.2)
 rw[<-e] at p2
 have e2:((eh4 es.size).map fun j=>(es[j]?).map (·.2))=(es.toList.map (·.2)).map some:=by
   refine ei4 fun j=> ?_
   by_cases hj:j < es.size
   · rw[ec1,ej4 hj,eh6,ec1,ef2]
     have e:es[j]? =some es[j]:=by simp [hj]
     show some ((es[j]?).map (·.2))=_;rw[e];rfl
   · rw[ed5 (by rw[eb8,eg9];omega),ed5 (by rw[eb8,eb8,ef5];omega)]
 rw[e2] at p2;have p3:=p2.filterMap id;rw[List.filterMap_map,List.filterMap_map] at p3
 simpa using p3
theorem de5 {es:Array (Int×Value)}{t:SetTable}{Q:List Value->Shared->Prop}(hh:A.handled=none)(x:W7 s.heap d es ep t)(hz:es.size<=4096)(g:Q0 (P4 w) t)
   (hQ:∀(h':Heap) (tk:Nat) (dr:Drawn) (acc:Array Value),s.heap.objs.size<=h'.objs.size->(∀c o,s.heap.get? c=some o->h'.get? c=some o)->acc.size=es.size->acc.toList.Perm (es.toList.map (·.2))->Q acc.toList {s with heap:=h',toks:=tk,drawn:=dr}):
   wpAny (model prog w) A (collect (.ref d)) Q E s:=by
 have hn:es.size<=sizeLine:=ee0 hz (by rw[sizeLine_eq];decide)
 have hd0:d < s.heap.objs.size:=by
   obtain ⟨o,o1,_⟩:=x;exact Heap.lt_size o1
 have hdS:s.heap.objs.size≠d:=fun e=>eh8 _ (e▸hd0)
 unfold collect;refine wpAny_bind (wpAny_runValue (codeAny_builtin F.entry_proto_collect ?_));rw[Around.under_plainId F.plain_proto_collect _];show wpAny _ A.in1 (newList [] >>=fun l=>again (.builtin "list.__iadd__" ⟨[l,.ref d],[]⟩)) _ _ s;refine wpAny_bind (wpAny_newObj_type ?_);refine wpAny_pure ⟨plainId_quiet F.plain_list_iadd _,codeAny_builtin F.entry_list_iadd ?_⟩;rw[Around.under_plainId F.plain_list_iadd _]
 have x1:W7 (s.heap.push {cls:= .type "list",data:= .seq ([]:List Value).toArray}) d es ep t:=x.at_ fun o e=>Heap.get?_push_of_some _ e
 have hS1:(s.heap.push {cls:= .type "list",data:= .seq ([]:List Value).toArray}).get? s.heap.objs.size=some {cls:= .type "list",data:= .seq ([]:List Value).toArray}:=Heap.get?_push_size _ rfl
 have h1:Builtin.List.listSameRef (.ref s.heap.objs.size) (.ref d)=false:=by simp [Builtin.List.listSameRef,hdS]
 have hT:({s with heap:=s.heap.push {cls:= .type "list",data:= .seq ([]:List Value).toArray}}:Shared).TypeIs (.ref d) "set":=by
   obtain ⟨o,o1,o2,_⟩:=x1;exact ⟨o,o1,o2.1⟩
 show wpAny _ A.in1 (Builtin.List.listExtendWith (.ref s.heap.objs.size) (.ref d) (.ref s.heap.objs.size)) _ _ _;unfold Builtin.List.listExtendWith;refine wpAny_bind (wpAny_typeOf hT ?_);rw[if_neg (by rw[h1];decide)]
 have old1:∀c o,s.heap.get? c=some o->(s.heap.push {cls:= .type "list",data:= .seq ([]:List Value).toArray}).get? c=some o:=fun c o e=>Heap.get?_push_of_some _ e
 generalize hh1:s.heap.push {cls:= .type "list",data:= .seq ([]:List Value).toArray}=H1 at x1 hS1 hT old1 ⊢
 have hsz1:H1.objs.size=s.heap.objs.size+1:=by rw[<-hh1,Heap.size_push]
 have hd1:d < H1.objs.size:=by rw[hsz1];exact ek0 hd0
 refine wpAny_bind (dw3 x1 hn (fun hc=> ?_) fun pl dr pm=> ?_)
 · have dI:d≠H1.objs.size:=ed2 hd1
   obtain ⟨vs,sl,lv,s0,pv,hN⟩:∃(vs:List Value) (sl:Nat->Nat),vs.length=es.size/\sl 0=0/\vs.Perm (es.toList.map (·.2))/\∀(i:Nat) (s:Shared) (A':Around) (E':Value->Shared->Prop) (Q':Option (Value×Nat)->Shared->Prop),i<=es.size->W7 s.heap d es ep t->Q' ((vs[i]?).map fun v=>(v,sl (i+1))) s->wpAny (model prog w) A' (setNext d (sl i) i ep) Q' E' s:=by
     cases hb:w.params.followText "set-order" with
     |true=>
      have pk:=cx5 (w.params.setOrder d ep) es;refine ⟨(pickOrder (w.params.setOrder d ep) es).toList.map (·.2),fun _=>0,by rw[eb8,pk.length_eq,ef5],rfl,pk.map _,fun i s A' E' Q' hi y q=>de4 hb y ?_⟩;rw[ec1,ef2,Option.map_map] at q;exact q
     |false=>
      rw[hb] at hc
      have hl:t.led=true:=by rw[g.1];unfold P4;rw[hb];rfl
      refine ⟨es.toList.map (·.2),ap2 t,by rw[eb8,ef5],rfl,List.Perm.refl _,fun i s A' E' Q' hi y q=>cx6 hb y hl (by simpa using hc) g.2.2 hi ?_⟩;rw[ec1,ef2,Option.map_map] at q;exact q
   have W:=(dw1 (prog:=prog) (w:=w) (A:=A.in1) (I:=H1.objs.size) (t:=t) hh dI rfl lv hN).toS
   have hit:SIt (H1.push {cls:= .type "set_iterator",data:= .fields #[.int 0 0,.int 0 0,.ref d,.int es.size 0,.int ep 0]}) H1.objs.size d (.int (sl 0) 0) 0 es.size ep:=by
     rw[s0];exact ⟨_,Heap.get?_push_size _ rfl,rfl,rfl⟩
   have x2:W7 (H1.push {cls:= .type "set_iterator",data:= .fields #[.int 0 0,.int 0 0,.ref d,.int es.size 0,.int ep 0]}) d es ep t:=x1.at_ fun o e=>Heap.get?_push_of_some _ e
   have hS2:(H1.push {cls:= .type "set_iterator",data:= .fields #[.int 0 0,.int 0 0,.ref d,.int es.size 0,.int ep 0]}).get? s.heap.objs.size=some {cls:= .type "list",data:= .seq ([]:List Value).toArray}:=Heap.get?_push_of_some _ hS1
   have old2:∀c o,s.heap.get? c=some o->(H1.push {cls:= .type "set_iterator",data:= .fields #[.int 0 0,.int 0 0,.ref d,.int es.size 0,.int ep 0]}).get? c=some o:=fun c o e=>Heap.get?_push_of_some _ (old1 c o e)
   have hT2:({s with heap:=H1.push {cls:= .type "set_iterator",data:= .fields #[.int 0 0,.int 0 0,.ref d,.int es.size 0,.int ep 0]}}:Shared).TypeIs (.ref d) "set":=by
     obtain ⟨o,o1,o2,_⟩:=x2;exact ⟨o,o1,o2.1⟩
   generalize (H1.push {cls:= .type "set_iterator",data:= .fields #[.int 0 0,.int 0 0,.ref d,.int es.size 0,.int ep 0]})=H2 at x2 hS2 hit old2 hT2 ⊢
   have hIS:H1.objs.size≠s.heap.objs.size:=by omega
   have hSf:s.heap.objs.size∉[H1.objs.size,d]:=fun z=>by
     simp only[ec8,eg4,or_false] at z
     rcases z with z|z
     · exact hIS z.symm
     · exact hdS z
   refine wpAny_bind (wpAny_holding ?_);unfold Builtin.List.listLengthHint;refine wpAny_bind (wpAny_specialOf hT2 PySem.F.slot_set_len.lookup ?_)
   (generalize hid:("set.__len__":String)=id0;(fail_if_success (clear hid id0));wp_delta;rw[show splitId id0=some ("set","__len__") from by subst hid;decide+kernel];subst hid)
   refine wpAny_bind (wpAny_isInstance (b:=true) hT2 (by rw[isSubtype_type];kernel_rfl) ?_);rw[if_neg (by decide)];show wpAny _ A.in1 (typeOf (.ref d) >>=_) _ _ _;refine wpAny_bind (wpAny_typeOf hT2 ?_);refine wpAny_pure ?_;show wpAny _ A.in1 (rule "list.extend.makes-room" >>=fun _=>Builtin.List.listTouch (.ref s.heap.objs.size) >>=fun _=>again (.builtin "list.extend.loop" ⟨[.ref s.heap.objs.size,.ref H1.objs.size,.ref s.heap.objs.size],[]⟩)) _ _ _;refine wpAny_bind (wpAny_rule (wpAny_bind ?_));show wpAny _ A.in1 (updateSeq s.heap.objs.size (·.push .none) >>=fun _=>updateSeq s.heap.objs.size (·.pop)) _ _ _;refine wpAny_bind (wpAny_updateSeq hS2 rfl ?_);have hS3:=Heap.get?_update_self (Obj.mapSeq (·.push Value.none)) hS2 rfl;refine wpAny_updateSeq hS3 rfl ?_;have hS4:=Heap.get?_update_self (Obj.mapSeq (·.pop)) hS3 rfl
   have oth:∀c o,c≠s.heap.objs.size->H2.get? c=some o->((H2.update s.heap.objs.size (Obj.mapSeq (·.push Value.none))).update s.heap.objs.size (Obj.mapSeq (·.pop))).get? c=some o:=fun c o hc e=>(Heap.get?_update_other _ _ (Ne.symm hc)).trans ((Heap.get?_update_other _ _ (Ne.symm hc)).trans e)
   refine wpAny_pure ⟨plainId_quiet F.plain_extend_loop _,codeAny_extend_loopS W hn _ hSf _ es.size 0 _ _ _ rfl (ee2 _) ⟨hit.at_ fun o e=>oth _ o hIS e,x2.at_ fun o e=>oth _ o hdS.symm e⟩ hS4 (ItemsOf.nil _) fun s' acc c' mv hS' ha=> ?_⟩;show wpAny _ A (load s.heap.objs.size >>=_) _ _ s';refine wpAny_bind (wpAny_load hS' (wpAny_pure ?_))
   have es':s'={s with heap:=s'.heap,toks:=s'.toks,drawn:=s.drawn}:=by
     obtain ⟨h,g,dr,t,os⟩:=s';have a1:=mv.gens;have a2:=mv.drawn;have a3:=mv.os
     dsimp only at a1 a2 a3
     rw[a1,a2,a3]
   rw[es'];refine hQ s'.heap s'.toks s.drawn acc (eh9 (Heap.lt_size hS')) (fun c o e=> ?_) ha.1 (by rw[ds3 (ha.1.trans lv.symm) ha.2];exact pv);have hc:c < s.heap.objs.size:=Heap.lt_size e;refine mv.heap c o (fun hm=> ?_) (oth c o (ed2 hc) (old2 c o e));simp only[ec8,eg4,or_false] at hm
   rcases hm with z|z
   · exact ed2 hc z
   · rw[z,hsz1] at hc;exact absurd hc (Nat.not_lt.mpr (ek2 _))
 · have dI:d≠H1.objs.size+1:=ed2 (ek0 hd1)
   have lp:pl.length=es.size:=by rw[pm.length_eq,eg9]
   have bd:∀j∈pl,j < es.size:=fun j hj=>eg8.mp (pm.mem_iff.mp hj)
   have W:=(dw2 (prog:=prog) (w:=w) (A:=A.in1) (a:=d) (ep:=ep) (I:=H1.objs.size+1) (T:=H1.objs.size) (t:=t) hh dI (ed2 (en9 _)) rfl lp bd).toS
   have k2:∀c o,H1.get? c=some o->((H1.push (seqObj "tuple" (pl.map fun (x:Nat)=>rawInt (x:Int)).toArray 0)).push {cls:= .type "set_iterator",data:= .fields #[.ref H1.objs.size,.int 0 0,.ref d,.int es.size 0,.int ep 0]}).get? c=some o:=fun c o e=>Heap.get?_push_of_some _ (Heap.get?_push_of_some _ e)
   have hit:SIt ((H1.push (seqObj "tuple" (pl.map fun (x:Nat)=>rawInt (x:Int)).toArray 0)).push {cls:= .type "set_iterator",data:= .fields #[.ref H1.objs.size,.int 0 0,.ref d,.int es.size 0,.int ep 0]}) (H1.objs.size+1) d (.ref H1.objs.size) 0 es.size ep:=by
     have:=Heap.get?_push_size (H1.push (seqObj "tuple" (pl.map fun (x:Nat)=>rawInt (x:Int)).toArray 0)) (o:={cls:= .type "set_iterator",data:= .fields #[.ref H1.objs.size,.int 0 0,.ref d,.int es.size 0,.int ep 0]}) rfl;rw[Heap.size_push] at this;exact ⟨_,this,rfl,rfl⟩
   have hTu:∃m,((H1.push (seqObj "tuple" (pl.map fun (x:Nat)=>rawInt (x:Int)).toArray 0)).push {cls:= .type "set_iterator",data:= .fields #[.ref H1.objs.size,.int 0 0,.ref d,.int es.size 0,.int ep 0]}).get? H1.objs.size=some (seqObj "tuple" (pl.map fun (x:Nat)=>rawInt (x:Int)).toArray m):=⟨0,Heap.get?_push_of_some _ (Heap.get?_push_size _ rfl)⟩
   have x2:W7 ((H1.push (seqObj "tuple" (pl.map fun (x:Nat)=>rawInt (x:Int)).toArray 0)).push {cls:= .type "set_iterator",data:= .fields #[.ref H1.objs.size,.int 0 0,.ref d,.int es.size 0,.int ep 0]}) d es ep t:=x1.at_ fun o e=>k2 _ o e
   have hS2:((H1.push (seqObj "tuple" (pl.map fun (x:Nat)=>rawInt (x:Int)).toArray 0)).push {cls:= .type "set_iterator",data:= .fields #[.ref H1.objs.size,.int 0 0,.ref d,.int es.size 0,.int ep 0]}).get? s.heap.objs.size=some {cls:= .type "list",data:= .seq ([]:List Value).toArray}:=k2 _ _ hS1
   have old2:∀c o,s.heap.get? c=some o->((H1.push (seqObj "tuple" (pl.map fun (x:Nat)=>rawInt (x:Int)).toArray 0)).push {cls:= .type "set_iterator",data:= .fields #[.ref H1.objs.size,.int 0 0,.ref d,.int es.size 0,.int ep 0]}).get? c=some o:=fun c o e=>k2 _ _ (old1 c o e)
   have hT2:({s with drawn:=dr,heap:=((H1.push (seqObj "tuple" (pl.map fun (x:Nat)=>rawInt (x:Int)).toArray 0)).push {cls:= .type "set_iterator",data:= .fields #[.ref H1.objs.size,.int 0 0,.ref d,.int es.size 0,.int ep 0]})}:Shared).TypeIs (.ref d) "set":=by
     obtain ⟨o,o1,o2,_⟩:=x2;exact ⟨o,o1,o2.1⟩
   clear k2;generalize ((H1.push (seqObj "tuple" (pl.map fun (x:Nat)=>rawInt (x:Int)).toArray 0)).push {cls:= .type "set_iterator",data:= .fields #[.ref H1.objs.size,.int 0 0,.ref d,.int es.size 0,.int ep 0]})=H2 at x2 hS2 hit old2 hT2 hTu ⊢
   have hIS:H1.objs.size+1≠s.heap.objs.size:=by omega
   have hTS:H1.objs.size≠s.heap.objs.size:=by omega
   have hSf:s.heap.objs.size∉[H1.objs.size+1,d,H1.objs.size]:=fun z=>by
     simp only[ec8,eg4,or_false] at z
     rcases z with z|z|z
     · exact hIS z.symm
     · exact hdS z
     · exact hTS z.symm
   refine wpAny_bind (wpAny_holding ?_);unfold Builtin.List.listLengthHint;refine wpAny_bind (wpAny_specialOf hT2 PySem.F.slot_set_len.lookup ?_)
   (generalize hid:("set.__len__":String)=id0;(fail_if_success (clear hid id0));wp_delta;rw[show splitId id0=some ("set","__len__") from by subst hid;decide+kernel];subst hid)
   refine wpAny_bind (wpAny_isInstance (b:=true) hT2 (by rw[isSubtype_type];kernel_rfl) ?_);rw[if_neg (by decide)];show wpAny _ A.in1 (typeOf (.ref d) >>=_) _ _ _;refine wpAny_bind (wpAny_typeOf hT2 ?_);refine wpAny_pure ?_;show wpAny _ A.in1 (rule "list.extend.makes-room" >>=fun _=>Builtin.List.listTouch (.ref s.heap.objs.size) >>=fun _=>again (.builtin "list.extend.loop" ⟨[.ref s.heap.objs.size,.ref (H1.objs.size+1),.ref s.heap.objs.size],[]⟩)) _ _ _;refine wpAny_bind (wpAny_rule (wpAny_bind ?_));show wpAny _ A.in1 (updateSeq s.heap.objs.size (·.push .none) >>=fun _=>updateSeq s.heap.objs.size (·.pop)) _ _ _;refine wpAny_bind (wpAny_updateSeq hS2 rfl ?_);have hS3:=Heap.get?_update_self (Obj.mapSeq (·.push Value.none)) hS2 rfl;refine wpAny_updateSeq hS3 rfl ?_;have hS4:=Heap.get?_update_self (Obj.mapSeq (·.pop)) hS3 rfl
   have oth:∀c o,c≠s.heap.objs.size->H2.get? c=some o->((H2.update s.heap.objs.size (Obj.mapSeq (·.push Value.none))).update s.heap.objs.size (Obj.mapSeq (·.pop))).get? c=some o:=fun c o hc e=>(Heap.get?_update_other _ _ (Ne.symm hc)).trans ((Heap.get?_update_other _ _ (Ne.symm hc)).trans e)
   refine wpAny_pure ⟨plainId_quiet F.plain_extend_loop _,codeAny_extend_loopS W hn _ hSf _ es.size 0 _ _ _ rfl (ee2 _) ⟨hit.at_ fun o e=>oth _ o hIS e,x2.at_ fun o e=>oth _ o hdS.symm e,let ⟨m,e⟩:=hTu;⟨m,oth _ _ hTS e⟩⟩ hS4 (ItemsOf.nil _) fun s' acc c' mv hS' ha=> ?_⟩;show wpAny _ A (load s.heap.objs.size >>=_) _ _ s';refine wpAny_bind (wpAny_load hS' (wpAny_pure ?_))
   have es':s'={s with heap:=s'.heap,toks:=s'.toks,drawn:=dr}:=by
     obtain ⟨h,g,dr,t,os⟩:=s';have a1:=mv.gens;have a2:=mv.drawn;have a3:=mv.os
     dsimp only at a1 a2 a3
     rw[a1,a2,a3]
   rw[es'];refine hQ s'.heap s'.toks dr acc (eh9 (Heap.lt_size hS')) (fun c o e=> ?_) ha.1 (ds4 pm ha.1 ha.2);have hc:c < s.heap.objs.size:=Heap.lt_size e;refine mv.heap c o (fun hm=> ?_) (oth c o (ed2 hc) (old2 c o e));simp only[ec8,eg4,or_false] at hm
   rcases hm with z|z
   · exact ed2 hc z
   · rw[z,hsz1] at hc;exact absurd hc (Nat.not_lt.mpr (Nat.le_succ_of_le (ek2 _)))
end
end L2
namespace L2
open PySem PySem.Spec PyProof.Rows
theorem bf8 {α:Type}[BEq α][LawfulBEq α]:∀{ds ks:List α},ds.Nodup->(∀x∈ds,x∈ks)->ks.length=ds.length->ks.Perm ds
 |[],ks,_,_,h=>by
  obtain rfl:=eh7.mp h;exact List.Perm.refl _
 |x::ds,ks,nd,h,hl=>by
  have hx:=h x ec5;have p:=List.perm_cons_erase hx;obtain ⟨n1,n2⟩:=eg7.mp nd;have le:=List.length_erase_of_mem hx;refine p.trans (List.Perm.cons x (bf8 n2 (fun y hy=> ?_) (by rw[le,hl];rfl)))
  have:y≠x:=fun e=>n1 (e▸hy)
  exact (List.mem_erase_of_ne this).mpr (h y (ec9 _ hy))
theorem bf9 (val:Nat->Int):∀i,(firstMet val i).Nodup
 |0=>by rw[firstMet_zero];exact ek7
 |i+1=>by
  rw[firstMet_succ];unfold step_dedup
  split
  · exact bf9 val i
  · rename_i h;refine eg5.mpr ⟨bf9 val i,by simp,fun a ha b hb=> ?_⟩;rw[eh0.mp hb];intro e;exact h (List.any_eq_true.mpr ⟨a,ha,by simp [e]⟩)
theorem dm5 {ns:List Int}{n:Nat}(hn:n=ns.length)(k:Int):k∈firstMet (fun i=>ns.getD i 0) n↔k∈ns:=by
 have e:=firstMet_any (fun i=>ns.getD i 0) n k
 have e2:(eh4 n).map (fun i=>ns.getD i 0)=ns:=by
   subst hn
   refine ei4 fun j=> ?_
   by_cases hj:j < ns.length
   · rw[ec1,ej4 hj,eb9 hj];simp [ed0,hj]
   · rw[ed5 (by rw[eb8,eg9];omega),ed5 (by omega)]
 rw[e2] at e
 have a:∀l:List Int,l.any (· ==k)=true↔k∈l:=fun l=>by simp
 rw[<-a,<-a,e]
section
variable {prog:Program} {w:World} {A:Around} {E:Value->Shared->Prop} {s:Shared} {d:Addr}
theorem bg0:∀{l:List (Int×Value)},ElemsOf (intKind prog w) l->∃ks:List Int,IntsAre (l.map (·.2)) ks/\∀k,k∈ks↔∃e∈l,(intKind prog w).is k e.2=true
 |[],_=>⟨[],.nil,fun k=>by simp⟩
 |e::l,h=>by
  obtain ⟨⟨k,hk,_⟩,_⟩:=h.head;obtain ⟨ks,i1,i2⟩:=bg0 h.tail;obtain ⟨t,ht⟩:=Value.isInt_shape (show Value.isInt k e.2=true from hk);refine ⟨k::ks,by rw[eg2,ht];exact .cons k t i1,fun j=> ?_⟩;rw[ec8,i2 j];constructor
  · rintro (rfl|⟨e',h1,h2⟩)
    · exact ⟨e,ec5,hk⟩
    · exact ⟨e',ec9 _ h1,h2⟩
  · rintro ⟨e',h1,h2⟩
    rcases ec8.mp h1 with rfl|h1
    · exact .inl ((intKind prog w).inj e'.2 j k h2 hk)
    · exact .inr ⟨e',h1,h2⟩
theorem dm6 {ds:List Int}{Q:Value->Shared->Prop}(hh:A.handled=none)(nd:ds.Nodup)(h64:ds.length < 64)(G:P3 prog w (P4 w) s.heap d (fun j=>ds.any (· ==j)) ds.length)
   (h:∀(h':Heap) (tk:Nat) (dr:Drawn) (a:Addr) (out:Array Value) (ms:List Int) (e:Nat),s.heap.objs.size<=a->(∀c o,s.heap.get? c=some o->h'.get? c=some o)->h'.get? a=some (seqObj "list" out e)->IntsAre out.toList ms->ms.Perm ds->ms.Pairwise (· <= ·)->Q (.ref a) {s with heap:=h',toks:=tk,drawn:=dr}):
   wpAny (model prog w) A (call (.builtin "sorted") [.ref d]) Q E s:=by
 obtain ⟨o,es,ep,t,o1,o2,o3,he,hm,hb,hf,hn,g⟩:=G;obtain ⟨ks,i1,i2⟩:=bg0 he
 have lk:ks.length=ds.length:=by
   have:=IntsAre.length i1;rw[eb8,ef5,hn] at this;exact this.symm
 have pk:ks.Perm ds:=bf8 nd (fun x hx=>(i2 x).mpr ((hm x).mp (by simpa using hx))) lk;refine Calls.call_function_entry kind_sorted plain_sorted entry_sorted (args_sorted1 _) ?_;unfold Builtin.«sorted»;refine wpAny_bind (m:=checkCount "sorted" 1 1 _) (wpAny_pure ?_);refine wpAny_bind (de5 (show A.in1.handled=none from hh) ⟨o,o1,o2,o3,hf⟩ (eh9 hb) g fun h1 tk dr acc le old sz pm=> ?_);obtain ⟨ks2,j1,j2,_⟩:=cu5 i1 pm;have pk2:=j2.trans pk
 have l64:acc.toList.length < 64:=by rw[ef5,sz,hn];exact h64
 refine wpAny_bind (wpAny_newList ?_ (hsz:=by rw[sizeLine_eq];omega));have hoL:(h1.push (seqObj "list" acc.toList.toArray 0)).get? h1.objs.size=some (seqObj "list" acc.toList.toArray 0):=Heap.get?_push_size _ rfl;show wpAny _ _ _ _ _ {s with heap:=h1.push (seqObj "list" acc.toList.toArray 0),toks:=tk,drawn:=dr};refine wpAny_bind (wpAny_holding (wpAny_call_entry slot_list_sort ⟨_,hoL,rfl⟩ entry_list_sort (list_sort_tree hoL j1 l64 fun out ns' a1 a2 a3=>⟨_,rfl,?_⟩) (args_list_sort _)));refine wpAny_pure ⟨_,rfl,?_⟩;obtain ⟨e,he⟩:=sortedHeap_at (out:=out) hoL;refine h _ tk dr h1.objs.size out ns' e le (fun c o e=> ?_) he a1 (a2.trans pk2) a3;have hb1:=old c o e;have hlt:c < h1.objs.size:=Heap.lt_size hb1;rw[sortedHeap_old (ed2 hlt) (by rw[Heap.size_push];exact ek0 hlt)];exact Heap.get?_push_of_some _ hb1
end
section
variable {X:Cx} {l:Expr} {ta:TA} {p p2 pos pos2:Pos}
theorem i9.drew {pins:List (Addr×Obj)}{σ:St}{H:Hp}{s:Shared}(I:i9 X pins σ H s)(d:Drawn):i9 X pins σ H {s with drawn:=d}:=⟨I.ok,I.os,I.bare,I.base,I.loc,I.cell,I.free,I.freeC,I.pin,I.hok,I.len⟩
theorem cx7:bootBuiltins "set"=some (.type "set"):=by decide+kernel
def de6 (K:PySem.W.Frag)(t:TA):TE:=fun σ H Q=>t σ H fun xs H1=>∃(a:Addr) (ns:List Int),xs=[.ref a]/\i5 K H1 a (ns.map V.int)/\ns.length < 64/\∀(ms:List Int) o,(∀k,k∈ms↔k∈ns)->ms.Pairwise (· < ·)->H1 o=none->Q (.ref o) (i8 H1 o (.lst (ms.map V.int)))
theorem cm7 (hc:X.calm=true)(hm:X.mg "sorted"=none)(hm2:X.mg "set"=none)(ha:PA X [l] ta)(hg:Gl X "sorted":=by rfl)(hg2:Gl X "set":=by rfl)(hs:starEach [l] X.env=[(false,eval l X.env)]:=by rfl)
   (hs2:starEach [.Call (.Name "set" p2) [l] [] pos2] X.env=(false,eval (.Call (.Name "set" p2) [l] [] pos2) X.env)::starEach [] X.env:=by rfl):
   PE X (.Call (.Name "sorted" p) [.Call (.Name "set" p2) [l] [] pos2] [] pos) (de6 X.K ta):=by
 intro pins s σ H Q I h;refine Call_ (Q2 I hg hm X0 (PyProof.Rows.callWith_builtin1 ?_ hs2 rfl));rw[hs2];show wpAny _ _ (spliced ((false,eval (.Call (.Name "set" p2) [l] [] pos2) X.env)::backTo pos (starEach [] X.env))) _ _ s;refine Calls.spliced_cons ?_;refine Call_ (Q2 I hg2 hm2 cx7 (PyProof.Rows.callWith_type1 (r6 (ha pos2 pins s σ H _ I h) fun us s1 ⟨vs,H1,I1,r1,q1⟩=> ?_) hs rfl));obtain ⟨a,ns,e,hq,hz,q⟩:=q1;subst e;obtain ⟨u,rfl,rx⟩:=M9 r1;cases rx;obtain ⟨its,rv,pl,hz2⟩:=I1.list hq;have hh:X.A.handled=none:=I1.ok.hd hc;have ia:=ac2 rv;have il:=rv.length;rw[eb8] at il
 refine dw0 (ns:=ns) hh pl.isList (by simpa using ia) (by rw[ec7];unfold scanBound;omega) fun h' tk G k=> ?_
 have nil:starEach ([]:List Expr) X.env=[]:=rfl;rw[nil];show wpAny _ _ (pure []) _ _ _;refine wpAny_pure ?_;rw[ec7] at G;have ml:(firstMet (fun i=>ns.getD i 0) its.length).length<=its.length:=firstMet_length_le _ _
 refine dm6 (s:={s1 with heap:=h',toks:=tk}) hh (bf9 _ its.length) (by omega) G fun h2 tk2 dr b out ms e1 le old g1 g2 g3 g4=> ?_
 have sz:s1.heap.objs.size < h'.objs.size:=by
   obtain ⟨o,_,_,_,o1,_⟩:=G;exact Heap.lt_size o1
 have le:h'.objs.size<=b:=le
 have kp:∀c o,s1.heap.get? c=some o->h2.get? c=some o:=fun c o y=>old c o (k c o (Heap.lt_size y) y)
 have hb:s1.heap.objs.size<=b:=ee0 (eh9 sz) le
 have hl:ms.length<=sizeLine:=by rw[g3.length_eq,sizeLine_eq];omega
 have mnd:ms.Nodup:=g3.nodup_iff.mpr (bf9 _ its.length);refine ⟨.ref b,_,(bt6 (tk:=tk2) I1 hb kp g1 g2 hl).drew dr,rfl,q ms b (fun j=> ?_) ?_ (I1.hok.fresh hb)⟩
 · rw[g3.mem_iff,dm5 il.symm]
 · exact (g4.and mnd).imp fun {x y} ⟨z1,z2⟩=>by
     have z2:x≠y:=z2;omega
end
end L2
namespace My
open PySem L2 Mth
section
variable {P:Program} {w:World} {K:PySem.W.Frag} {mg:Str->Option Value} {base:Heap}
theorem bn9 (K:PySem.W.Frag){X:Cx}{o e:Expr}{to:TE}{t:TA}{apos pos:Pos}(ho:PE X o to)(ha:PA X [e] t)(hK:X.K=K:=by rfl)
   (hbase:attributeBase o "count" X.env (eval o X.env)=eval o X.env:=by rfl)
   (hfew:((backTo pos (starEach [e] X.env)).all (fun x=> !x.1)&&(backToKw pos (keywordEach [] X.env)).all (fun x=>x.1.isSome)
     &&decide ([e].length+([]:List Keyword).length+(if ([]:List Keyword).isEmpty then 0 else 1) < 30))=true:=by rfl)
   (hline:(apos.endLine==pos.line)=true:=by rfl) (hs:starEach [e] X.env=(false,eval e X.env)::starEach [] X.env:=by rfl) (hplain:(backTo pos (starEach [] X.env)).any (·.1)=false:=by rfl):
   PE X (.Call (.Attribute o "count" apos) [e] [] pos) (tBM K "list" bt2 to t):=by
 subst hK;exact db2 ho ha hbase hfew hline hs hplain
end
end My
namespace My
open PySem L2 Mth
section
variable {P:Program} {w:World} {K:PySem.W.Frag} {mg:Str->Option Value} {base:Heap}
theorem ci2 {a b:Nat}:((b:Int)%(a:Int)=0)↔a∣b:=by
 rw[<-ei1];constructor
 · intro h;exact em6 (by omega)
 · intro h;rw[Nat.mod_eq_zero_of_dvd h];rfl
def ba8:Sp:=fun vs H Q _=>∃(a:Addr) (p:List Int) (m:Nat),vs=[.ref a,.int (m:Int)]/\r9 H a p/\1<=m/\m < 1000000000/\
 ∀(v:V) (H':Hp),e8 H H'->((v= .non/\∀l,1<=Z5 p l->∀e,P1 l m e->e∣Z5 p l)\/∃(t:Addr) (l d:Nat),v= .ref t/\P1 l m d/\¬d∣Z5 p l)->Q v H'
theorem U6:m9 ["p","m","lengths","length","right"] ["p","m"] (j6 an9):=by rfl'
theorem bg1:(["one"]:List Str).Nodup:=by decide+kernel
theorem cd5 {f:Addr}{fd:FuncData}(F:x6 K "_law_bars" "_law_bars" an9 f fd)(B:Bl mg)(zvx:m8 P w K mg base "_law_rounds" 1 ["p"] J0)(zk:m8 P w K mg base "_law_gcd" 1 ["one","other"] bf4):n5 P w K mg base y7 2 f fd ["p","m"] ba8:=by
 refine F.ok U6 (fun vs H Q E h=> ?_) (fun cdv A outer s H vs Q E hr h=> ?_)
 · obtain ⟨a,p,m,rfl,⟨ha,tp,lp⟩,m1,m2,q⟩:=h;rfl
 · obtain ⟨a,p,m,rfl,⟨ha,tp,lp⟩,m1,m2,q⟩:=h;have zq:m7 1 _:=hr.mono (by decide);have zdz:m7 1 _:=hr.mono (by decide)
   refine ⟨_,c7 (m6 (i:=2) U6.nd rfl (Or.inl rfl) (bl9 B.sorted (c5 (G9 (N:=["one"]) (nl:=1) (fr:=[]) rfl .of (A0 (i7 zvx zq (c5 (pv 0) c6))) (fun _ _ _ _ _=>o7 (i:=0) bg1 rfl (Or.inl rfl)) (fun _ _ _ _ _=>B7) (fun _ _ _ _ _=>(ae0 K (by exact B.len) (c5 (pv 0) c6)))) c6)))
     (c7 (A7 PassesOwn.never rfl (A0 (cm7 rfl B.sorted B.set (c5 (pv 2) c6))) (o7 (i:=3) U6.nd rfl (Or.inl rfl))
       (c7 (m6 (i:=4) U6.nd rfl (Or.inl rfl) j4)
       (c7 (V0 PassesOwn.never (j9 J3 (i7 zk zdz (c5 (q0 O5 (pv 4) (pv 3)) (c5 (pv 1) c6))) (pv 4) (j8 _))
         (c8 (m6 (i:=4) U6.nd rfl (Or.inl rfl) (i7 zk zdz (c5 (q0 O5 (pv 4) (pv 3)) (c5 (pv 1) c6))))))
       (c8 (o6 (j9 J3 (q0 K6 (bn9 K (pv 2) (c5 (pv 3) c6)) (pv 4)) j4 (j8 _)) (c8 (j5 (A6 (c5 (pv 3) (c5 (bn9 K (pv 2) (c5 (pv 3) c6)) (c5 (pv 4) c6)))))) k7)))))
     (c8 (j5 O4))),?_⟩
   refine ⟨_,rfl,a,p,rfl,⟨ha,tp,lp⟩,fun l as rs H1 hl s1 h1l rows up fa nda nla=> ?_⟩;obtain ⟨bd,lrs⟩:=bh4 tp lp up;refine ⟨l,rfl,⟨_,i5.of h1l⟩,C0 (K:=K) (a:=l) (xs:=as.map V.ref) (fun i ys σ H2=>∃v:Option V,σ=[v]/\H2=H1/\ys=((rs.take i).map fun r=>(r.length:Int)).map V.int) ⟨none,rfl,rfl,rfl⟩ (fun i ys σ H2 _ zz=>by obtain ⟨_,_,e,_⟩:=zz;rw[e];exact i5.of h1l) ?_ ?_⟩
   · rintro i y ys σ H2 hi ⟨v,rfl,rfl,rfl⟩;rw[ec1] at hi
     cases hA:as[i]? with
     |none=>rw[hA] at hi;cases hi
     |some e=>
      rw[hA] at hi;cases hi;have hil:i < as.length:=(ec0.mp hA).1;have hri:rs[i]? =some (rs[i]'(by rw[<-rows.1];exact hil)):=eb9 _;generalize (rs[i]'(by rw[<-rows.1];exact hil))=r at hri;have he:=rows.2 i e r hA hri;refine ⟨_,rfl,e,_,rfl,.inl (i5.of he),p9 (by rw[eb8,eb8,ed3];omega),_,rfl,rfl,?_⟩;rw[n6 hri,ec3,ec3,eb8];rfl
   · rintro ys σ H2 ⟨v,rfl,rfl,rfl⟩ D hD;rw[eb8,rows.1,ee1];have s2:e8 H2 (i8 H2 D (.lst ((rs.map fun r=>(r.length:Int)).map V.int))):=e8.upd_new hD;have g2:(i8 H2 D (.lst ((rs.map fun r=>(r.length:Int)).map V.int))) D=some (.lst ((rs.map fun r=>(r.length:Int)).map V.int)):=c9;generalize (i8 H2 D (.lst ((rs.map fun r=>(r.length:Int)).map V.int)))=H3 at s2 g2 ⊢;refine ⟨D,_,rfl,i5.of g2,by rw[eb8];omega,fun ns l2 pm srt hl2=> ?_⟩;have s4:e8 H3 (i8 H3 l2 (.lst (ns.map V.int))):=e8.upd_new hl2;have g4:(i8 H3 l2 (.lst (ns.map V.int))) l2=some (.lst (ns.map V.int)):=c9;generalize (i8 H3 l2 (.lst (ns.map V.int)))=H4 at s4 g4 ⊢;have s14:=s1.trans (s2.trans s4)
     have ln:ns.length=rs.length:=by rw[pm.length_eq,eb8]
     have ers:rs=w5 p p.length:=up.eq
     have cn:∀z:Nat,ns.countP (fun x=>decide (x=(z:Int)))=Z5 p z:=fun z=>by
       rw[pm.countP_eq,eu4];unfold Z5 L8;rw[<-ers]
       refine List.countP_congr fun r _=> ?_
       show decide ((r.length:Int)=(z:Int))=true↔_;rw[decide_eq_true_iff,decide_eq_true_iff];omega
     refine ⟨_,rfl,l2,ns,rfl,i5.of g4,by omega,fun ms so mem upm hso=> ?_⟩;have s5:e8 H4 (i8 H4 so (.lst (ms.map V.int))):=e8.upd_new hso;have g5:(i8 H4 so (.lst (ms.map V.int))) so=some (.lst (ms.map V.int)):=c9;generalize (i8 H4 so (.lst (ms.map V.int)))=H5 at s5 g5 ⊢;have g5l:=s5 _ _ g4
     refine ⟨so,rfl,⟨_,i5.of g5⟩,E7 (K:=K) (a:=so) (xs:=ms.map V.int) (fun i σ H6=>(∃v3 v4:Option V,σ=[some (.ref a),some (.int (m:Int)),some (.ref l2),v3,v4])/\H6=H5/\∀z∈ms.take i,∀e,P1 z.toNat m e->e∣Z5 p z.toNat)
       ⟨⟨none,none,rfl⟩,rfl,fun z hz=>by simp at hz⟩ (fun i σ H6 _ zz=>by obtain ⟨_,e,_⟩:=zz;rw[e];exact i5.of g5) ?_ ?_⟩
     · rintro i y σ H6 hi ⟨⟨v3,v4,rfl⟩,rfl,hdv⟩;obtain ⟨z,hz,rfl⟩:=y9 hi;have hzn:z∈ns:=(mem z).mp (ec4 hz);obtain ⟨z1,z2⟩:=bd z (pm.mem_iff.mp hzn);obtain ⟨l,rfl⟩:=ef0 (show 0<=z by omega)
       refine ⟨fun mm σ H7=>∃d:Nat,σ=[some (.ref a),some (.int (m:Int)),some (.ref l2),some (.int (l:Int)),some (.int (d:Int))]/\H7=H6/\Z1 l m d/\mm=m - d,
         ⟨m - 1,1,rfl,rfl,Z1.start l m,rfl⟩,?_⟩
       rintro mm σ H7 ⟨d,rfl,rfl,lu,rfl⟩;have dp:=lu.pos;have dm:d<=m:=ej1 (by omega) lu.parts
       have eg:ee4 (d*l) m=d*ee4 l (m/d):=by
         have e:m=d*(m/d):=(Nat.mul_div_cancel' lu.parts).symm
         conv=>lhs;rw[e]
         exact Nat.gcd_mul_left d l (m/d)
       have ev:[V.int ((d:Int)*(l:Int)),V.int (m:Int)]=[V.int ((d*l:Nat):Int),V.int (m:Int)]:=by rw[el2]
       refine ⟨_,rfl,_,rfl,_,_,rfl,rfl,.inr ⟨by omega,by omega⟩,_,rfl,d*l,m,ev,_,rfl,rfl,_,rfl,?_⟩;rw[eg]
       by_cases hg:ee4 l (m/d)=1
       · rw[hg,Nat.mul_one];refine R8 rfl ?_;have hlr:=lu.done hg;refine ⟨_,rfl,.inl ⟨rfl,_,i5.of g5l⟩,_,rfl,l2,ns,_,rfl,rfl,g5l,_,rfl,_,_,rfl,rfl,(by show (0:Int) < (d:Int);omega),rfl,_,rfl,?_⟩;rw[cn l]
         by_cases hdd:d∣Z5 p l
         · refine R8 (congrArg V.int (ci2.mpr hdd)) ?_;refine ⟨⟨_,_,rfl⟩,rfl,fun x hx e he=> ?_⟩;rw[n6 hz] at hx
           rcases ed8.mp hx with y|y
           · exact hdv x y e he
           · have:x=(l:Int):=by simpa using y
             subst this;rw[ed7] at he ⊢;rw[he.uniq hlr];exact hdd
         · rw[decide_eq_false (fun y=>hdd (ci2.mp (V.int.inj y)))];refine A8 ⟨_,rfl,_,rfl,.inl ⟨rfl,_,i5.of g5l⟩,_,rfl,l2,ns,_,rfl,rfl,g5l,_,rfl,(show 3<=sizeLine by decide),fun o ho=> ?_⟩;exact q _ _ ((s14.trans s5).trans (e8.upd_new ho)) (.inr ⟨o,l,d,rfl,hlr,hdd⟩)
       · obtain ⟨mo1,mo2⟩:=lu.more (by omega) hg;rw[decide_eq_false (fun y=>absurd (V.int.inj y) (by omega))];refine A8 ⟨fun σ' H'=>∃m',m' < m - d/\_,fun _ _ h=>h,?_⟩;refine ⟨_,rfl,_,rfl,_,_,rfl,rfl,.inr ⟨by omega,by omega⟩,_,rfl,d*l,m,ev,?_⟩;refine ⟨m - d*ee4 l (m/d),by omega,d*ee4 l (m/d),by rw[eg];rfl,rfl,lu.step (by omega),rfl⟩
     · rintro σ H6 ⟨⟨v3,v4,rfl⟩,rfl,hdv⟩;rw[eb8,ee1] at hdv;refine q .non H6 (s14.trans s5) (.inl ⟨rfl,fun l c1 e he=> ?_⟩);obtain ⟨r1,hr1,er1⟩:=bg7 (rs:=w5 p p.length) (l:=l) (by unfold Z5 at c1;omega)
       have hm:(l:Int)∈ms:=by
         refine (mem _).mpr (pm.mem_iff.mpr (ee3.mpr ⟨r1,by rw[ers];exact hr1,by rw[er1]⟩))
       exact hdv (l:Int) hm e he
end
end My
namespace My
open PySem L2 Mth
section
variable {P:Program} {w:World} {K:PySem.W.Frag} {mg:Str->Option Value} {base:Heap} {zxy zzy:Addr} {zvy zyx zzx zy zyz zxx zzz zx zw zwz zv:Addr}
theorem ap3 {a t y:Str}(h:y.length<=a.length):Txt.startswith (a++t) y=Txt.startswith a y:=by
 unfold Txt.startswith Builtin.Str.subAt
 have l1:(a++t).length=a.length+t.length:=by
   show (a++t).cps.size=a.cps.size+t.cps.size;rw[Str.cps_append,ep6]
 have e:(a++t).cps.extract 0 (0+y.length)=a.cps.extract 0 (0+y.length):=by
   rw[Str.cps_append];refine Array.toList_inj.mp ?_;rw[eq6,eq6,Array.toList_append];rw[eo4,eo4,eu7,eu7,List.take_append_of_le_length];show 0+y.length - 0<=a.cps.toList.length;have:a.cps.toList.length=a.length:=rfl;omega
 rw[e,l1,decide_eq_true (show 0+y.length<=a.length+t.length by omega),decide_eq_true (show 0+y.length<=a.length by omega)]
theorem de7:∀k:Nat,1<=k->((ep5 10 k).map Char.toNat)[0]? ≠some 48:=by
 intro k
 induction k using Nat.strongRecOn with
 |_ k ih=>
  intro h1
  by_cases h:k < 10
  · rw[Nat.toDigits_of_lt_base h]
    have all:∀j,j < 10->1<=j->(Nat.digitChar j).toNat≠48:=by decide
    intro e;exact all k h h1 (Option.some.inj e)
  · have hm:k%10 < 10:=ei2 k (by decide);have t:ep5 10 (k/10)++ep5 10 (k%10)=ep5 10 (10*(k/10)+k%10):=Nat.toDigits_append_toDigits (by decide) (by omega) hm;rw[eq7] at t;rw[<-t,ec3,ef3 (by rw[eb8];exact PySem.toDigits_len_ge 10 (k/10))];exact ih (k/10) (by omega) (by omega)
theorem ci3 {i:Int}(h0:0<=i):∀c∈(q9 i).cps.toList,48<=c/\c<=57:=by
 obtain ⟨k,rfl⟩:=ef0 h0;intro c hc;have e:=PySem.W.KIN.signs_num k
 have hc:c∈(ep5 10 k).map Char.toNat:=by rw[<-e];exact hc
 obtain ⟨ch,hch,rfl⟩:=ee3.mp hc;exact PyProof.Rows.digit_range (Nat.isDigit_of_mem_toDigits (by decide) (by decide) hch)
theorem dm7 {n:Nat}(h1:1<=n)(h2:n < 1000000000):by2 (q9 (n:Int))=true:=by
 have l9:=ad0 (i:=(n:Int)) (by omega) (by omega);have e:=PySem.W.KIN.signs_num n
 have l1:1<=(q9 (n:Int)).length:=by
   show 1<=(Str.ofString (toString ((n:Nat):Int))).cps.toList.length;rw[e,eb8];exact PySem.toDigits_len_ge 10 n
 unfold by2 Z9;rw[decide_eq_true (show (1:Int)<=((q9 (n:Int)).length:Int) by omega),decide_eq_true (show ((q9 (n:Int)).length:Int)<=9 by omega)]
 have a:(q9 (n:Int)).cps.toList.all (inS ao8)=true:=by
   rw[ei6];intro c hc;obtain ⟨c1,c2⟩:=ci3 (by omega) c hc;have:=cc5 (c - 48) (by omega);rw[show 48+(c - 48)=c by omega] at this;exact this
 have b:¬(q9 (n:Int)).cps.toList[0]? =some 48:=by
   show ¬(Str.ofString (toString ((n:Nat):Int))).cps.toList[0]? =some 48;rw[e];exact de7 n h1
 rw[a,decide_eq_false b];simp
def P5 (a b:Addr):List (x5×V):=[(Sum.inr ("p":Str),V.ref a),(Sum.inr ("q":Str),V.ref b)]
theorem dw4 (a b:Addr):B8 (P5 a b) (Sum.inr ("p":Str))=some (.ref a):=Y5 rfl
theorem dw5 (a b:Addr):B8 (P5 a b) (Sum.inr ("q":Str))=some (.ref b):=by
 unfold P5 B8
 rw[ej5 (by
   have:(Sum.inr ("p":Str):x5)≠Sum.inr ("q":Str):=fun z=>absurd (Sum.inr.inj z) (by decide+kernel)
   simpa using this)]
 exact Y5 (r:=[]) (p:=((Sum.inr ("q":Str):x5),V.ref b)) rfl
theorem dw6 (a:Addr):P0 ([]:List (x5×V)) (Sum.inr ("p":Str)) (.ref a)=[(Sum.inr ("p":Str),V.ref a)]:=al8 _ rfl
theorem dw7 (a b:Addr):P0 [((Sum.inr ("p":Str):x5),V.ref a)] (Sum.inr ("q":Str)) (.ref b)=P5 a b:=by
 refine al8 _ ?_;unfold B8
 rw[ej5 (by
   have:(Sum.inr ("p":Str):x5)≠Sum.inr ("q":Str):=fun z=>absurd (Sum.inr.inj z) (by decide+kernel)
   simpa using this)]
 rfl
def M2 (a b:Addr)(nm:Str)(x:Addr):Prop:=(nm="p"/\x=a)\/(nm="q"/\x=b)
theorem M2.val {a b:Addr}{nm:Str}{x:Addr}(h:M2 a b nm x):B8 (P5 a b) (Sum.inr nm)=some (.ref x):=by
 rcases h with ⟨rfl,rfl⟩|⟨rfl,rfl⟩
 · exact dw4 _ _
 · exact dw5 _ _
theorem M2.fit {a b:Addr}{nm:Str}{x:Addr}(h:M2 a b nm x):ba4 nm "name"=true/\nm.length<=1/\32∉nm.cps.toList:=by
 rcases h with ⟨rfl,rfl⟩|⟨rfl,rfl⟩
 · exact ⟨by decide+kernel,by decide+kernel,by decide+kernel⟩
 · exact ⟨by decide+kernel,by decide+kernel,by decide+kernel⟩
theorem ea4 {a b:Addr}{wd nm:Str}{x:Addr}(h:M2 a b nm x)(hf:(J1.find? fun r=>decide (r.1=wd))=some (wd,(["name"]:List Str))):ac5 wd [nm] (["name"]:List Str)/\af9 (P5 a b) [nm] (["name"]:List Str)/\X9 (P5 a b) [nm] (["name"]:List Str)=[.ref x]:=by
 obtain ⟨f1,f2,f3⟩:=h.fit;refine ⟨⟨hf,rfl,by decide+kernel,fun y hy=>by rw[eh0.mp hy];omega,fun i y z hy hz=> ?_⟩,fun i y z hy hz=> ?_,?_⟩
 · match i,hy,hz with
   |0,hy,hz=>
    cases hy;cases hz;exact f1
 · match i,hy,hz with
   |0,hy,hz=>
    cases hy;cases hz;exact ⟨fun _=>by rw[h.val];rfl,fun n=>absurd rfl n⟩
 · unfold X9 J5;simp [h.val]
theorem ds5 {a b:Addr}{wd nm mn:Str}{x y:Addr}(h:M2 a b nm x)(g:M2 a b mn y)(hf:(J1.find? fun r=>decide (r.1=wd))=some (wd,(["name","name"]:List Str))):ac5 wd [nm,mn] (["name","name"]:List Str)/\af9 (P5 a b) [nm,mn] (["name","name"]:List Str)/\X9 (P5 a b) [nm,mn] (["name","name"]:List Str)=[.ref x,.ref y]:=by
 obtain ⟨f1,f2,f3⟩:=h.fit;obtain ⟨g1,g2,g3⟩:=g.fit;refine ⟨⟨hf,rfl,by decide+kernel,fun z hz=> ?_,fun i u v hu hv=> ?_⟩,fun i u v hu hv=> ?_,?_⟩
 · simp only[ec8,eg4,or_false] at hz
   rcases hz with rfl|rfl<;>omega
 · match i,hu,hv with
   |0,hu,hv=>cases hu;cases hv;exact f1
   |1,hu,hv=>cases hu;cases hv;exact g1
 · match i,hu,hv with
   |0,hu,hv=>cases hu;cases hv;exact ⟨fun _=>by rw[h.val];rfl,fun n=>absurd rfl n⟩
   |1,hu,hv=>cases hu;cases hv;exact ⟨fun _=>by rw[g.val];rfl,fun n=>absurd rfl n⟩
 · unfold X9 J5;simp [h.val,g.val]
theorem ea5 {a b:Addr}{wd nm:Str}{x:Addr}{n:Nat}(h:M2 a b nm x)(n1:1<=n)(n2:n < 1000000000)(hf:(J1.find? fun r=>decide (r.1=wd))=some (wd,(["name","number"]:List Str))):ac5 wd [nm,q9 (n:Int)] (["name","number"]:List Str)/\af9 (P5 a b) [nm,q9 (n:Int)] (["name","number"]:List Str)/\X9 (P5 a b) [nm,q9 (n:Int)] (["name","number"]:List Str)=[.ref x,.int (n:Int)]:=by
 obtain ⟨f1,f2,f3⟩:=h.fit;have l9:=ad0 (i:=(n:Int)) (by omega) (by omega);have rd:PySem.intText? (q9 (n:Int))=some (n:Int):=PySem.W.KIN.num_reads (by omega) (by omega)
 have m1:("number":Str)≠"name":=by decide+kernel
 have m2:("number":Str)≠"text":=by decide+kernel
 have m3:("number":Str)≠"into":=by decide+kernel
 have fn:ba4 (q9 (n:Int)) "number"=true:=by
   unfold ba4;rw[if_neg m2,if_pos rfl];exact dm7 n1 n2
 refine ⟨⟨hf,rfl,by decide+kernel,fun z hz=> ?_,fun i u v hu hv=> ?_⟩,fun i u v hu hv=> ?_,?_⟩
 · simp only[ec8,eg4,or_false] at hz
   rcases hz with rfl|rfl<;>omega
 · match i,hu,hv with
   |0,hu,hv=>cases hu;cases hv;exact f1
   |1,hu,hv=>cases hu;cases hv;exact fn
 · match i,hu,hv with
   |0,hu,hv=>cases hu;cases hv;exact ⟨fun _=>by rw[h.val];rfl,fun n=>absurd rfl n⟩
   |1,hu,hv=>cases hu;cases hv;exact ⟨fun z=>absurd z m1,fun _ _ _=>⟨by rw[rd];rfl,by omega⟩⟩
 · unfold X9 J5;simp [h.val,m1,m2,m3,rd]
theorem ea6 {es:List (x5×V)}{nm:Str}(hn:nm="p"\/nm="q"){t:Str}(lt:t.length<=40000):ac5 "turn" [nm,t] (["into","text"]:List Str)/\af9 es [nm,t] (["into","text"]:List Str):=by
 have m1:("into":Str)≠"name":=by decide+kernel
 have m3:("text":Str)≠"name":=by decide+kernel
 have f1:ba4 nm "into"=true:=by rcases hn with rfl|rfl<;>decide+kernel
 have l1:nm.length<=1:=by rcases hn with rfl|rfl<;>decide+kernel
 refine ⟨⟨by decide+kernel,rfl,by decide+kernel,fun z hz=> ?_,fun i u v hu hv=> ?_⟩,fun i u v hu hv=> ?_⟩
 · simp only[ec8,eg4,or_false] at hz
   rcases hz with rfl|rfl<;>omega
 · match i,hu,hv with
   |0,hu,hv=>cases hu;cases hv;exact f1
   |1,hu,hv=>cases hu;cases hv;exact if_pos rfl
 · match i,hu,hv with
   |0,hu,hv=>cases hu;cases hv;exact ⟨fun z=>absurd z m1,fun _ _ z=>absurd rfl z⟩
   |1,hu,hv=>cases hu;cases hv;exact ⟨fun z=>absurd z m3,fun _ z=>absurd rfl z⟩
theorem cx8 {pre nm t:Str}(e:pre="turn"++" "++nm++" ")(hn:nm="p"\/nm="q")(lt:t.length<=40000):M1 (pre++t) ["turn",nm,t]:=by
 have l1:nm.length<=1/\32∉nm.cps.toList:=by rcases hn with rfl|rfl<;>exact ⟨by decide+kernel,by decide+kernel⟩
 have lp:pre.length<=10:=by
   rw[e]
   rcases hn with rfl|rfl<;>decide+kernel
 have la:(pre++t).length=pre.length+t.length:=by
   show (pre++t).cps.size=pre.cps.size+t.cps.size;rw[Str.cps_append,ep6]
 refine ⟨by omega,fun x hx=> ?_,.inl ⟨?_,?_⟩⟩
 · have tl:("turn":Str).length<=10:=by decide+kernel
   simp only[ec8,eg4,or_false] at hx
   rcases hx with rfl|rfl|rfl<;>omega
 · rw[e]
   rcases hn with rfl|rfl
   · rw[ap3 (by decide+kernel)]
     decide+kernel
   · rw[ap3 (by decide+kernel)]
     decide+kernel
 · rw[e];exact bx9 (by decide+kernel) l1.2
theorem bo0 {n:Nat}(n2:n < 1000000000):M1 ("soonest p "++q9 (n:Int)) ["soonest","p",q9 (n:Int)]:=by
 have l9:=ad0 (i:=(n:Int)) (by omega) (by omega)
 have la:(("soonest p ":Str)++q9 (n:Int)).length=("soonest p ":Str).length+(q9 (n:Int)).length:=by
   show (("soonest p ":Str)++q9 (n:Int)).cps.size=("soonest p ":Str).cps.size+(q9 (n:Int)).cps.size;rw[Str.cps_append,ep6]
 have l10:("soonest p ":Str).length<=10:=by decide+kernel
 refine ⟨by omega,fun x hx=> ?_,.inr ⟨?_,?_,by simp⟩⟩
 · have tl:("soonest":Str).length<=10:=by decide+kernel
   have tp:("p":Str).length<=10:=by decide+kernel
   simp only[ec8,eg4,or_false] at hx
   rcases hx with rfl|rfl|rfl<;>omega
 · rw[ap3 (by decide+kernel)]
   decide+kernel
 · have ej:("soonest p ":Str)++q9 (n:Int)=Txt.join " " ["soonest","p",q9 (n:Int)]:=by
     refine O6 ?_;show _=(Builtin.Str.glued " " ["soonest","p",q9 (n:Int)]).cps.toList;rw[StrLaws.glued_eq_join,O3,C2]
     have e1:("soonest p ":Str).cps.toList=("soonest":Str).cps.toList++(" ":Str).cps.toList++(("p":Str).cps.toList++(" ":Str).cps.toList):=by decide+kernel
     rw[e1];simp [Mth.ac3]
   rw[ej];refine (an1 (c0:=32) (rest:=[]) at8 (by simp) (fun x hx=> ?_) (by simp) (by decide+kernel)).1;simp only[ec8,eg4,or_false] at hx
   rcases hx with rfl|rfl|rfl
   · decide+kernel
   · decide+kernel
   · exact fun z=>by have:=ci3 (i:=(n:Int)) (by omega) 32 z;omega
end
end My
namespace My
open PySem L2 Mth
section
variable {P:Program} {w:World} {K:PySem.W.Frag} {mg:Str->Option Value} {base:Heap} {zxy zzy:Addr} {zvy zyx zzx zy zyz zxx zzz zx zw zwz zv:Addr}
structure Two (C:Addr)(H:Hp)(d kd a b:Addr)(p q:List Int):Prop where
 desk:G0 C H d kd (P5 a b)
 tp:r9 H a p
 tq:r9 H b q
theorem Two.keep {C:Addr}{H H':Hp}{d kd a b:Addr}{p q:List Int}(h:Two C H d kd a b p q)(s:e8 H H'):Two C H' d kd a b p q:=⟨h.desk.keep s,h.tp.keep s,h.tq.keep s⟩
theorem cm8 {C:Addr}{H:Hp}{d kd a b:Addr}{row wd nm:Str}{x:Addr}{Q:VK}{E:XK}(D:G0 C H d kd (P5 a b))(h:M2 a b nm x)(hr:M1 row [wd,nm])(hf:(J1.find? fun r=>decide (r.1=wd))=some (wd,(["name"]:List Str)))(nd:wd≠"drop")(q:aa0 wd [.ref x] H Q):L7 C [.ref d,.str row] H Q E:=by
 obtain ⟨r1,r2,r3⟩:=ea4 h hf;exact ⟨d,kd,_,row,wd,[nm],_,rfl,D,hr,r1,r2,.inr ⟨rfl,nd,by rw[r3];exact q⟩⟩
theorem ds6 {C:Addr}{H:Hp}{d kd a b:Addr}{row wd nm mn:Str}{x y:Addr}{Q:VK}{E:XK}(D:G0 C H d kd (P5 a b))(h:M2 a b nm x)(g:M2 a b mn y)(hr:M1 row [wd,nm,mn])(hf:(J1.find? fun r=>decide (r.1=wd))=some (wd,(["name","name"]:List Str)))(nd:wd≠"drop")(q:aa0 wd [.ref x,.ref y] H Q):L7 C [.ref d,.str row] H Q E:=by
 obtain ⟨r1,r2,r3⟩:=ds5 h g hf;exact ⟨d,kd,_,row,wd,[nm,mn],_,rfl,D,hr,r1,r2,.inr ⟨rfl,nd,by rw[r3];exact q⟩⟩
theorem dh1 {C qf qm:Addr}{H:Hp}{d kd a b:Addr}{row wd nm mn:Str}{x y:Addr}{Q:VK}{E:XK}(D:G0 C H d kd (P5 a b))(h:M2 a b nm x)(g:M2 a b mn y)(hr:M1 row [wd,nm,mn])(hf:(J1.find? fun r=>decide (r.1=wd))=some (wd,(["name","name"]:List Str)))(nd:wd≠"drop")(q:ap1 qf qm wd [.ref x,.ref y] H E):ab2 C qf qm [.ref d,.str row] H Q E:=by
 obtain ⟨r1,r2,r3⟩:=ds5 h g hf;exact ⟨d,kd,_,row,wd,[nm,mn],_,rfl,D,hr,r1,r2,rfl,nd,by rw[r3];exact q⟩
def aa2 (p q:List Int):Str:=if p.length=q.length then bj6 (decide (B4 p q=B4 q p)) else "NoFit"
noncomputable def U7 (p q:List Int):Str:=if p.length=q.length then bj6 (decide ((C9 p).Perm (C9 q))) else "NoFit"
theorem at9 {C:Addr}{cs:List (Str×Addr)}{H:Hp}{d kd a b:Addr}{row nm mn:Str}{x y:Addr}{u v:List Int}{Q:VK}{E:XK}(D:G0 C H d kd (P5 a b))(h:M2 a b nm x)(g:M2 a b mn y)(tu:r9 H x u)(tv:r9 H y v)(hr:M1 row ["past",nm,mn])(hc:(("NoFit":Str),zzx)∈cs)
   (q:∀H',e8 H H'->Q (.str (aa2 u v)) H'):N4 C zzx zzz cs [.ref d,.str row] H Q E:=by
 refine ⟨⟨d,row,rfl⟩,?_⟩;unfold aa2 at q
 by_cases e:u.length=v.length
 · rw[if_pos e] at q;exact .inl (ds6 D h g hr (by decide+kernel) (by decide+kernel) (.inr (.inr (.inr (.inr (.inl ⟨x,u,y,v,rfl,rfl,tu,tv,e,fun H1 s1=>⟨_,rfl,fun H2 s2=>q H2 (s1.trans s2)⟩⟩))))))
 · rw[if_neg e] at q;exact .inr (dh1 D h g hr (by decide+kernel) (by decide+kernel) (.inr ⟨x,u,y,v,.inl rfl,rfl,tu,tv,e,fun H1 s1=>⟨_,_,rfl,hc,by decide+kernel,by decide+kernel,by decide+kernel,fun H2 s2=>q H2 (s1.trans s2)⟩⟩))
theorem ap4 {C:Addr}{cs:List (Str×Addr)}{H:Hp}{d kd a b:Addr}{row nm mn:Str}{x y:Addr}{u v:List Int}{Q:VK}{E:XK}(D:G0 C H d kd (P5 a b))(h:M2 a b nm x)(g:M2 a b mn y)(tu:r9 H x u)(tv:r9 H y v)(hr:M1 row ["alike",nm,mn])(hc:(("NoFit":Str),zzx)∈cs)
   (q:∀H',e8 H H'->Q (.str (U7 u v)) H'):N4 C zzx zzz cs [.ref d,.str row] H Q E:=by
 refine ⟨⟨d,row,rfl⟩,?_⟩;unfold U7 at q
 by_cases e:u.length=v.length
 · rw[if_pos e] at q;exact .inl (ds6 D h g hr (by decide+kernel) (by decide+kernel) (.inr (.inr (.inr (.inr (.inr ⟨x,u,y,v,rfl,rfl,tu,tv,e,fun H1 s1=>⟨_,rfl,fun H2 s2=>q H2 (s1.trans s2)⟩⟩))))))
 · rw[if_neg e] at q;exact .inr (dh1 D h g hr (by decide+kernel) (by decide+kernel) (.inr ⟨x,u,y,v,.inr rfl,rfl,tu,tv,e,fun H1 s1=>⟨_,_,rfl,hc,by decide+kernel,by decide+kernel,by decide+kernel,fun H2 s2=>q H2 (s1.trans s2)⟩⟩))
theorem bj9:∀{l m:List Int},l.Perm m->l.Pairwise (· ≥ ·)->m.Pairwise (· ≥ ·)->l=m
 |[],m,h,_,_=>(List.Perm.nil_eq h)
 |x::l,m,h,hl,hm=>by
  cases m with
  |nil=>exact absurd h.length_eq (by simp)
  |cons y m=>
   obtain ⟨l1,l2⟩:=em0.mp hl;obtain ⟨m1,m2⟩:=em0.mp hm
   have e:x=y:=by
     have hx:x∈y::m:=h.mem_iff.mp ec5;have hy:y∈x::l:=h.mem_iff.mpr ec5
     rcases ec8.mp hx with z|z
     · exact z
     · rcases ec8.mp hy with u|u
       · exact u.symm
       · have a1:=m1 x z;have a2:=l1 y u;omega
   subst e;rw[bj9 (List.Perm.cons_inv h) l2 m2]
theorem cx9 (c:Bool):Y2 [V.str "no",V.str "yes"] (if c=true then 1 else 0)=some (.str (bj6 c)):=by
 cases c
 · exact o9 (j:=0) rfl
 · exact o9 (j:=1) rfl
theorem ci4 {c:TT}{t e u:TS}{D:T9}{σ:St}{H:Hp}(R:St->Hp->Prop)(rest:∀σ H,R σ H->u D σ H)(main:(∀σ H,R σ H->u D σ H)->cy5 c t e {D with nx:=u D} σ H):aq8 (cy5 c t e) u D σ H:=main rest
theorem ci5 (K:PySem.W.Frag)(H:Hp)(n:Nat)(x y:Str):LEq K H n [.str x,.str y] [.str x,.str y] true:=by
 refine .inr ⟨fun _=>true,rfl,fun j u v e1 e2=> ?_,by rw[eq_comm,ap8];exact fun _ _=>rfl⟩;rw[e1] at e2;cases e2;have m:=ec4 e1
 have fl:P6 u=true/\eqV u u=true:=by
   simp only[ec8,eg4,or_false] at m
   rcases m with rfl|rfl
   · exact ⟨rfl,decide_eq_true rfl⟩
   · exact ⟨rfl,decide_eq_true rfl⟩
 rw[<-fl.2];exact .flat fl.1 fl.1
theorem cm9 (p q:List Int):aa2 q p=aa2 p q:=by
 unfold aa2
 by_cases e:p.length=q.length
 · rw[if_pos e,if_pos e.symm]
   congr 1
   exact decide_eq_decide.mpr ⟨fun z=>z.symm,fun z=>z.symm⟩
 · rw[if_neg e,if_neg (fun z=>e z.symm)]
theorem cd6 (p q:List Int):U7 q p=U7 p q:=by
 unfold U7
 by_cases e:p.length=q.length
 · rw[if_pos e,if_pos e.symm]
   congr 1
   exact decide_eq_decide.mpr ⟨fun z=>z.symm,fun z=>z.symm⟩
 · rw[if_neg e,if_neg (fun z=>e z.symm)]
theorem cn0 (p:List Int):aa2 p p="yes":=by
 unfold aa2;rw[if_pos rfl,decide_eq_true rfl];rfl
theorem cd7 (p:List Int):U7 p p="yes":=by
 unfold U7;rw[if_pos rfl,decide_eq_true (List.Perm.refl _)];rfl
theorem O9 {row:Str}{ws:List Str}(h1:row.length<=50000)(h2:∀x∈ws,x.length<=50000)(h3:Txt.startswith row "turn "=false)(h4:Txt.split row " "=ws)(h5:ws≠[]):M1 row ws:=⟨h1,h2,.inr ⟨h3,h4,h5⟩⟩
def ca2 (C:Addr):Sp:=fun vs H Q _=>∃(d kd u v a b:Addr) (p q:List Int),vs=[.ref d,.ref a,.ref b]/\Two C H d kd u v p q/\r9 H a p/\r9 H b q/\∀H',e8 H H'->Q (.bl true) H'
theorem L4:m9 ["desk","p","q","dues","past","names"] ["desk","p","q"] (j6 X5):=by rfl'
theorem ag1:(["thing","p"]:List Str).Nodup:=by decide+kernel
theorem ag2:(["thing","q"]:List Str).Nodup:=by decide+kernel
theorem ba9 {f:Addr}{fd:FuncData}(F:x6 K "_law_two_right" "_law_two_right" X5 f fd)(B:Bl mg)(zrz:m8 P w K mg base "_law_kind" 2 ["p"] R4)(zqz:m8 P w K mg base "_law_said" 11 ["desk","row"] (N4 zzy zzx zzz [("NoTurn",zyx),("NoFit",zzx),("NoRounds",zy),("NoNumber",zyz),("NoRoot",zxx),("TooMany",zzz),("NoKind",zx),("NoText",zw),("NoName",zwz),("NoRow",zv)])):n5 P w K mg base y7 12 f fd ["desk","p","q"] (ca2 zzy):=by
 refine F.ok L4 (fun vs H Q E h=> ?_) (fun cdv A outer s H vs Q E hr h=> ?_)
 · obtain ⟨d,kd,u,v,a,b,p,q,rfl,T0,⟨ha,tp,lp⟩,⟨hb,tq,lq⟩,k⟩:=h;rfl
 · obtain ⟨d,kd,u,v,a,b,p,q,rfl,T0,⟨ha,tp,lp⟩,⟨hb,tq,lq⟩,k⟩:=h;have zmz:m7 2 _:=hr.mono (by decide);have zmx:m7 11 _:=hr.mono (by decide);have hu:=O1 hr
   refine ⟨_,c7 (m6 (i:=3) L4.nd rfl (Or.inl rfl) (A6 (c5 j7 (c5 j7 c6))))
     (c7 (o6 (j9 y8 (x9 B.len (c5 (pv 1) c6)) (x9 B.len (c5 (pv 2) c6)) (j8 _)) (c7 (m6 (i:=4) L4.nd rfl (Or.inl rfl) (G6 (aj6 0 hu) (G9 (N:=["thing","p"]) (nl:=1) (fr:=[1]) rfl .of (A0 (pv 2)) (fun _ _ _ _ _=>o7 (i:=0) ag1 rfl (Or.inl rfl)) (fun _ _ _ _ _=>B7) (fun _ _ _ _ _=>(p8 (r:=br3 K) o0 (pv 1) (pv 0) (fun _ _=>rfl)))) (G9 (N:=["thing","q"]) (nl:=1) (fr:=[2]) rfl .of (A0 (pv 1)) (fun _ _ _ _ _=>o7 (i:=0) ag2 rfl (Or.inl rfl)) (fun _ _ _ _ _=>B7) (fun _ _ _ _ _=>(p8 (r:=br3 K) o0 (pv 1) (pv 0) (fun _ _=>rfl)))) (j8 _)))
       (c8 (m6 (i:=3) L4.nd rfl (Or.inl rfl) (A6 (c5 (p8 o0 (A6 (c5 j7 (c5 j7 c6))) (aj8 B.int (c5 (pv 4) c6)) (fun _ _=>rfl)) (c5 (p8 o0 (A6 (c5 j7 (c5 j7 c6))) (aj8 B.int (c5 (G6 (aj6 0 hu) (i7 zrz zmz (c5 (pv 1) c6)) (i7 zrz zmz (c5 (pv 2) c6)) (j8 _)) c6)) (fun _ _=>rfl)) c6)))))) k7)
     (c7 (A7 PassesOwn.never rfl (A0 (A6 (c5 j7 (c5 j7 c6)))) (o7 (i:=5) L4.nd rfl (Or.inl rfl))
       (c8 (o6 (j9 (bc5 0 hu) (A6 (c5 (i7 zqz zmx (c5 (pv 0) (c5 (q0 J4 j7 (pv 5)) c6))) (c5 (i7 zqz zmx (c5 (pv 0) (c5 (q0 J4 j7 (pv 5)) c6))) c6))) (pv 3) (j8 _)) (c8 (j5 E5)) k7)))
     (c8 (j5 (bb0 (G6 y8 (i7 zqz zmx (c5 (pv 0) (c5 j7 c6))) j7 (j8 _)) (aq7 (G6 y8 (i7 zqz zmx (c5 (pv 0) (c5 j7 c6))) j7 (j8 _)))))))),?_⟩
   obtain ⟨D0,TP,TQ⟩:=T0;have np:M2 u v "p" u:= .inl ⟨rfl,rfl⟩;have nq:M2 u v "q" v:= .inr ⟨rfl,rfl⟩
   have hcf:(("NoFit":Str),zzx)∈[(("NoTurn":Str),zyx),("NoFit",zzx),("NoRounds",zy),("NoNumber",zyz),("NoRoot",zxx),("TooMany",zzz),("NoKind",zx),("NoText",zw),("NoName",zwz),("NoRow",zv)]:=by simp
   refine ⟨(show 2<=sizeLine by decide),fun dl hdl=> ?_⟩;have s1:e8 H (i8 H dl (.lst [V.str "NoFit",V.str "NoFit"])):=e8.upd_new hdl;have g1:(i8 H dl (.lst [V.str "NoFit",V.str "NoFit"])) dl=some (.lst [V.str "NoFit",V.str "NoFit"]):=c9;generalize (i8 H dl (.lst [V.str "NoFit",V.str "NoFit"]))=H1 at s1 g1 ⊢
   dsimp only[bb1]
   refine ci4 (fun σ H'=>∃(dl:Addr) (v4 v5:Option V),σ=[some (.ref d),some (.ref a),some (.ref b),some (.ref dl),v4,v5]/\H' dl=some (.lst [.str (aa2 p q),.str (U7 p q)])/\e8 H H') ?_ fun rest=> ?_
   · rintro σ H2 ⟨dl,v4,v5,rfl,g2,s2⟩;refine ⟨(show 2<=sizeLine by decide),fun nl hnl=> ?_⟩;have s3:e8 H2 (i8 H2 nl (.lst [V.str "p q",V.str "q p"])):=e8.upd_new hnl;have g3:(i8 H2 nl (.lst [V.str "p q",V.str "q p"])) nl=some (.lst [V.str "p q",V.str "q p"]):=c9;generalize (i8 H2 nl (.lst [V.str "p q",V.str "q p"]))=H3 at s3 g3 ⊢;refine ⟨nl,rfl,⟨_,i5.of g3⟩,E7 (K:=K) (a:=nl) (xs:=[V.str "p q",V.str "q p"]) (fun i σ H4=>(∃v4 v5:Option V,σ=[some (.ref d),some (.ref a),some (.ref b),some (.ref dl),v4,v5])/\e8 H3 H4) ⟨⟨_,_,rfl⟩,e8.refl _⟩ (fun i σ H4 _ zz=>by obtain ⟨_,s⟩:=zz;exact i5.of (s _ _ g3)) ?_ ?_⟩
     · rintro i x σ H4 hi ⟨⟨v4,v5,rfl⟩,s4⟩;have s04:=s2.trans (s3.trans s4)
       rcases (show x= .str "p q"\/x= .str "q p" by
         have:=ec4 hi
         simpa using this) with rfl|rfl
       · have rw1:M1 ("past "++"p q") ["past","p","q"]:=O9 (by decide+kernel) (by decide+kernel) (by decide+kernel) (by decide+kernel) (by simp);have rw2:M1 ("alike "++"p q") ["alike","p","q"]:=O9 (by decide+kernel) (by decide+kernel) (by decide+kernel) (by decide+kernel) (by simp);refine ⟨_,rfl,_,rfl,_,_,rfl,rfl,ee0 (show _<=100 by decide+kernel) (by rw[sizeLine_eq];decide),?_⟩
         try delta V2 R6 tC
         show N4 zzy zzx zzz _ _ _ _ _
         refine at9 (zzz:=zzz) (D0.keep s04) np nq (TP.keep s04) (TQ.keep s04) rw1 hcf fun H5 s5=> ?_
         refine ⟨_,rfl,_,rfl,_,_,rfl,rfl,ee0 (show _<=100 by decide+kernel) (by rw[sizeLine_eq];decide),?_⟩;have s05:=s04.trans s5
         try delta V2 R6 tC
         show N4 zzy zzx zzz _ _ _ _ _
         refine ap4 (zzz:=zzz) (D0.keep s05) np nq (TP.keep s05) (TQ.keep s05) rw2 hcf fun H6 s6=> ?_
         skip
         refine ⟨(show 2<=sizeLine by decide),fun o ho=> ?_⟩;have s46:=s5.trans s6;have s06:=s04.trans s46;refine ⟨_,rfl,o,dl,_,_,true,rfl,rfl,i5.of c9,i5.of (e8.upd_new ho _ _ ((s3.trans (s4.trans s46)) _ _ g2)),ci5 K _ 0 _ _,_,rfl,n9 ⟨⟨_,_,rfl⟩,s4.trans (s46.trans (e8.upd_new ho))⟩⟩
       · have rw1:M1 ("past "++"q p") ["past","q","p"]:=O9 (by decide+kernel) (by decide+kernel) (by decide+kernel) (by decide+kernel) (by simp);have rw2:M1 ("alike "++"q p") ["alike","q","p"]:=O9 (by decide+kernel) (by decide+kernel) (by decide+kernel) (by decide+kernel) (by simp);refine ⟨_,rfl,_,rfl,_,_,rfl,rfl,ee0 (show _<=100 by decide+kernel) (by rw[sizeLine_eq];decide),?_⟩
         try delta V2 R6 tC
         show N4 zzy zzx zzz _ _ _ _ _
         refine at9 (zzz:=zzz) (D0.keep s04) nq np (TQ.keep s04) (TP.keep s04) rw1 hcf fun H5 s5=> ?_
         refine ⟨_,rfl,_,rfl,_,_,rfl,rfl,ee0 (show _<=100 by decide+kernel) (by rw[sizeLine_eq];decide),?_⟩;have s05:=s04.trans s5
         try delta V2 R6 tC
         show N4 zzy zzx zzz _ _ _ _ _
         refine ap4 (zzz:=zzz) (D0.keep s05) nq np (TQ.keep s05) (TP.keep s05) rw2 hcf fun H6 s6=> ?_
         rw[cm9 p q,cd6 p q];refine ⟨(show 2<=sizeLine by decide),fun o ho=> ?_⟩;have s46:=s5.trans s6;have s06:=s04.trans s46;refine ⟨_,rfl,o,dl,_,_,true,rfl,rfl,i5.of c9,i5.of (e8.upd_new ho _ _ ((s3.trans (s4.trans s46)) _ _ g2)),ci5 K _ 0 _ _,_,rfl,n9 ⟨⟨_,_,rfl⟩,s4.trans (s46.trans (e8.upd_new ho))⟩⟩
     · rintro σ H4 ⟨⟨v4,v5,rfl⟩,s4⟩;have s04:=s2.trans (s3.trans s4);have rw1:M1 "past p p" ["past","p","p"]:=O9 (by decide+kernel) (by decide+kernel) (by decide+kernel) (by decide+kernel) (by simp);have rw2:M1 "alike q q" ["alike","q","q"]:=O9 (by decide+kernel) (by decide+kernel) (by decide+kernel) (by decide+kernel) (by simp);refine ⟨_,rfl,?_⟩
       try delta V2 R6 tC
       show N4 zzy zzx zzz _ _ _ _ _
       refine at9 (zzz:=zzz) (D0.keep s04) np np (TP.keep s04) (TP.keep s04) rw1 hcf fun H5 s5=> ?_
       rw[cn0];have s05:=s04.trans s5;refine ⟨rfl,_,rfl,A8 ⟨_,rfl,?_⟩⟩
       try delta V2 R6 tC
       show N4 zzy zzx zzz _ _ _ _ _
       refine ap4 (zzz:=zzz) (D0.keep s05) nq nq (TQ.keep s05) (TQ.keep s05) rw2 hcf fun H6 s6=> ?_
       rw[cd7];exact ⟨rfl,k H6 (s05.trans s6)⟩
   · refine ⟨_,rfl,a,_,rfl,.inl (i5.of (s1 _ _ ha)),_,rfl,b,_,rfl,.inl (i5.of (s1 _ _ hb)),rfl,_,rfl,?_⟩;rw[eb8,eb8]
     by_cases e:p.length=q.length
     · rw[decide_eq_true (by rw[e])];refine A8 ?_;have ha1:=s1 _ _ ha;have hb1:=s1 _ _ hb;refine ⟨_,rfl,b,rfl,⟨_,i5.of hb1⟩,C0 (K:=K) (a:=b) (xs:=q.map V.int) (fun i ys σ H3=>∃v,σ=[v,some (.ref a)]/\H3=H1/\ys=(B4 p (q.take i)).map V.int) ⟨none,rfl,rfl,rfl⟩ (fun i ys σ H3 _ zz=>by obtain ⟨_,_,e,_⟩:=zz;rw[e];exact i5.of hb1) ?_ ?_⟩
       · rintro i x ys σ H3 hi ⟨v,rfl,rfl,rfl⟩;obtain ⟨z,hz,rfl⟩:=y9 hi;have hzq:=ec4 hz;refine ⟨_,rfl,_,rfl,a,_,z,_,rfl,rfl,i5.of ha1,M3 (tq.lo z hzq) (by have:=tq.hi z hzq;omega),?_,?_⟩
         · refine p9 ?_;unfold B4;rw[eb8,eb8,ed3];omega
         · refine ⟨_,rfl,rfl,?_⟩;rw[n6 hz];unfold B4;rw[ec3,ec3];rfl
       · rintro ys σ H3 ⟨v,rfl,rfl,rfl⟩ c1 hc1;rw[eb8,ee1];have s4:e8 H3 (i8 H3 c1 (.lst ((B4 p q).map V.int))):=e8.upd_new hc1;have g4:(i8 H3 c1 (.lst ((B4 p q).map V.int))) c1=some (.lst ((B4 p q).map V.int)):=c9;generalize (i8 H3 c1 (.lst ((B4 p q).map V.int)))=H4 at s4 g4 ⊢;have ha4:=s4 _ _ ha1;have hb4:=s4 _ _ hb1;refine ⟨_,rfl,a,rfl,⟨_,i5.of ha4⟩,C0 (K:=K) (a:=a) (xs:=p.map V.int) (fun i ys σ H5=>∃v,σ=[v,some (.ref b)]/\H5=H4/\ys=(B4 q (p.take i)).map V.int) ⟨none,rfl,rfl,rfl⟩ (fun i ys σ H5 _ zz=>by obtain ⟨_,_,e,_⟩:=zz;rw[e];exact i5.of ha4) ?_ ?_⟩
         · rintro i x ys σ H5 hi ⟨v,rfl,rfl,rfl⟩;obtain ⟨z,hz,rfl⟩:=y9 hi;have hzq:=ec4 hz;refine ⟨_,rfl,_,rfl,b,_,z,_,rfl,rfl,i5.of hb4,M3 (tp.lo z hzq) (by have:=tp.hi z hzq;omega),?_,?_⟩
           · refine p9 ?_;unfold B4;rw[eb8,eb8,ed3];omega
           · refine ⟨_,rfl,rfl,?_⟩;rw[n6 hz];unfold B4;rw[ec3,ec3];rfl
         · rintro ys σ H5 ⟨v,rfl,rfl,rfl⟩ c2 hc2;rw[eb8,ee1];have s6:e8 H5 (i8 H5 c2 (.lst ((B4 q p).map V.int))):=e8.upd_new hc2;have g6:(i8 H5 c2 (.lst ((B4 q p).map V.int))) c2=some (.lst ((B4 q p).map V.int)):=c9;generalize (i8 H5 c2 (.lst ((B4 q p).map V.int)))=H6 at s6 g6 ⊢;refine ⟨c1,c2,_,_,decide (B4 p q=B4 q p),rfl,rfl,i5.of (s6 _ _ g4),i5.of g6,ad9 _ _ _ _ _,?_⟩;have s06:=s1.trans (s4.trans s6);refine ⟨(show 2<=sizeLine by decide),fun n1 hn1=> ?_⟩;have s7:e8 H6 (i8 H6 n1 (.lst [V.str "no",V.str "yes"])):=e8.upd_new hn1;have g7:(i8 H6 n1 (.lst [V.str "no",V.str "yes"])) n1=some (.lst [V.str "no",V.str "yes"]):=c9;generalize (i8 H6 n1 (.lst [V.str "no",V.str "yes"]))=H7 at s7 g7 ⊢;refine ⟨_,rfl,_,rfl,n1,_,_,_,rfl,rfl,i5.of g7,cx9 _,?_⟩;refine ⟨(show 2<=sizeLine by decide),fun n2 hn2=> ?_⟩;have s8:e8 H7 (i8 H7 n2 (.lst [V.str "no",V.str "yes"])):=e8.upd_new hn2;have g8:(i8 H7 n2 (.lst [V.str "no",V.str "yes"])) n2=some (.lst [V.str "no",V.str "yes"]):=c9;generalize (i8 H7 n2 (.lst [V.str "no",V.str "yes"]))=H8 at s8 g8 ⊢;have s08:=s06.trans (s7.trans s8);refine ⟨_,rfl,a,p,rfl,⟨s08 _ _ ha,tp,lp⟩,fun k1 ms1 H9 hk1 s9 pm1 pw1 bd1 lm1 g9=> ?_⟩;have s09:=s08.trans s9;refine ⟨_,rfl,b,q,rfl,⟨s09 _ _ hb,tq,lq⟩,fun k2 ms2 Ha hk2 sa pm2 pw2 bd2 lm2 ga=> ?_⟩;have ek:decide (ms1=ms2)=decide ((C9 p).Perm (C9 q)):=decide_eq_decide.mpr ⟨fun z=>pm1.symm.trans (z▸pm2),fun z=>bj9 (pm1.trans (z.trans pm2.symm)) pw1 pw2⟩;refine ⟨k1,k2,_,_,decide (ms1=ms2),rfl,rfl,i5.of (sa _ _ g9),i5.of ga,ad9 _ _ _ _ _,?_⟩;rw[ek];refine ⟨_,rfl,n2,_,_,_,rfl,rfl,i5.of (sa _ _ (s9 _ _ g8)),cx9 _,?_⟩;refine ⟨(show 2<=sizeLine by decide),fun o ho=> ?_⟩;refine rest _ _ ⟨o,_,none,rfl,?_,(s09.trans sa).trans (e8.upd_new ho)⟩;rw[c9];unfold aa2 U7;rw[if_pos e,if_pos e];rfl
     · rw[decide_eq_false (fun z=>e (by have:=V.int.inj z;omega))];refine n9 (rest _ _ ⟨dl,none,none,rfl,?_,s1⟩);rw[g1];unfold aa2 U7;rw[if_neg e,if_neg e]
theorem cn1 {p:List Int}{m:Nat}{x y:Str}(tp:A1 p)(h:av9 p m x)(g:av9 p m y):x=y:=by
 rcases h with ⟨rfl,l,d,b⟩|⟨h,r,rfl,tr,lr,pw,ro,hh⟩
 · rcases g with ⟨rfl,_⟩|⟨h,r,rfl,tr,lr,pw,ro,hh⟩
   · rfl
   · exact absurd (an0 tr pw b.right) b.bad
 · rcases g with ⟨rfl,l,d,b⟩|⟨h',r',rfl,tr',lr',pw',ro',hh'⟩
   · exact absurd (an0 tr pw b.right) b.bad
   · have e1:=bd6 tp tr' ro hh pw' hh';have e2:=bd6 tp tr ro' hh' pw hh;rw[et0 e1 e2]
theorem cy0 {C:Addr}{cs:List (Str×Addr)}{H:Hp}{d kd a b:Addr}{p:List Int}{m:Nat}{fd:Str}{Q:VK}{E:XK}(D:G0 C H d kd (P5 a b))(ta:r9 H a p)(m1:1<=m)(m2:m < 1000000000)(hc:(("TooMany":Str),zzz)∈cs)
   (due:(16 < p.length/\fd="TooMany")\/(p.length<=16/\av9 p m fd)) (q:∀H',e8 H H'->Q (.str fd) H'):N4 C zzx zzz cs [.ref d,.str ("soonest p "++q9 (m:Int))] H Q E:=by
 refine ⟨⟨d,_,rfl⟩,?_⟩;obtain ⟨r1,r2,r3⟩:=ea5 (wd:="soonest") (.inl ⟨rfl,rfl⟩:M2 a b "p" a) m1 m2 (by decide+kernel)
 rcases due with ⟨l17,rfl⟩|⟨l16,st⟩
 · exact .inr ⟨d,kd,_,_,"soonest",["p",q9 (m:Int)],_,rfl,D,bo0 m2,r1,r2,rfl,by decide+kernel,by
     rw[r3]
     exact .inl ⟨a,p,m,rfl,rfl,ta,l17,m1,by omega,fun H1 s1=>⟨_,_,rfl,hc,by decide+kernel,by decide+kernel,by decide+kernel,fun H2 s2=>q H2 (s1.trans s2)⟩⟩⟩
 · exact .inl ⟨d,kd,_,_,"soonest",["p",q9 (m:Int)],_,rfl,D,bo0 m2,r1,r2,.inr ⟨rfl,by decide+kernel,by
     rw[r3]
     exact .inr (.inr (.inr (.inl ⟨a,p,m,rfl,rfl,ta,l16,m1,by omega,fun x H1 sx s1=>⟨x,rfl,fun H2 s2=>by
       rw[cn1 ta.2.1 sx st]
       exact q H2 (s1.trans s2)⟩⟩)))⟩⟩
def bk0 (C:Addr):Sp:=fun vs H Q _=>∃(d kd u v a:Addr) (p q:List Int) (m:Nat),vs=[.ref d,.ref a,.int (m:Int)]/\Two C H d kd u v p q/\r9 H a p/\1<=m/\m < 1000000000/\∀H',e8 H H'->Q (.bl true) H'
theorem G5:m9 ["desk","p","m","found","told"] ["desk","p","m"] (j6 P2):=by rfl'
theorem ap5 {f:Addr}{fd:FuncData}(F:x6 K "_law_soonest_right" "_law_soonest_right" P2 f fd)(B:Bl mg)(zuz:m8 P w K mg base "soonest_root" 7 ["p","m"] ak4)(yyz:m8 P w K mg base "_law_bars" 2 ["p","m"] ba8)(zkx:m8 P w K mg base "_law_home" 3 ["p"] aa8)(zmy:m8 P w K mg base "_law_power" 2 ["p","k"] be4)(zqz:m8 P w K mg base "_law_said" 11 ["desk","row"] (N4 zzy zzx zzz [("NoTurn",zyx),("NoFit",zzx),("NoRounds",zy),("NoNumber",zyz),("NoRoot",zxx),("TooMany",zzz),("NoKind",zx),("NoText",zw),("NoName",zwz),("NoRow",zv)])):n5 P w K mg base y7 12 f fd ["desk","p","m"] (bk0 zzy):=by
 refine F.ok G5 (fun vs H Q E h=> ?_) (fun cdv A outer s H vs Q E hr h=> ?_)
 · obtain ⟨d,kd,ku,kv,a,p,q,m,rfl,T0,TP,m1,m2,k⟩:=h;rfl
 · obtain ⟨d,kd,ku,kv,a,p,q,m,rfl,T0,TP,m1,m2,k⟩:=h;have zpy:m7 7 _:=hr.mono (by decide);have ym:m7 2 _:=hr.mono (by decide);have yzz:m7 3 _:=hr.mono (by decide);have zbz:m7 2 _:=hr.mono (by decide);have zmx:m7 11 _:=hr.mono (by decide);have hu:=O1 hr
   refine ⟨_,c7 (m6 (i:=3) G5.nd rfl (Or.inl rfl) j7)
     (c7 (o6 (j9 cj1 (x9 B.len (c5 (pv 1) c6)) j4 (j8 _)) (c7 (m6 (i:=4) G5.nd rfl (Or.inl rfl) (i7 zuz zpy (c5 (pv 1) (c5 (pv 2) c6))))
       (c7 (o6 (j9 J3 (G6 bb3 (pv 4) O4 (j8 _)) (G6 au2 (i7 yyz ym (c5 (pv 1) (c5 (pv 2) c6))) O4 (j8 _)) (j8 _)) (c8 (j5 E5)) k7)
       (c7 (m6 (i:=3) G5.nd rfl (Or.inl rfl) j7)
       (c8 (o6 (j9 au2 (pv 4) O4 (j8 _)) (c7 (m6 (i:=3) G5.nd rfl (Or.inl rfl) (K4 B.str (c5 (p8 U2 (pv 4) j4 (fun _ _=>rfl)) c6)))
         (c8 (o6 (R5 (j9 J3 (i7 zkx yzz (c5 (p8 U2 (pv 4) j4 (fun _ _=>rfl)) c6)) (p8 U2 (pv 4) j4 (fun _ _=>rfl)) (j8 _)) (Q3 (j9 (bc5 0 hu) (i7 zmy zbz (c5 (p8 U2 (pv 4) j4 (fun _ _=>rfl)) (c5 (pv 2) c6))) (pv 1) (j8 _)))).pt (c8 (j5 E5)) k7))) k7))))) k7)
     (c8 (j5 (G6 y8 (i7 zqz zmx (c5 (pv 0) (c5 (q0 J4 j7 (K4 B.str (c5 (pv 2) c6))) c6))) (pv 3) (j8 _))))),?_⟩
   obtain ⟨D0,TU,_⟩:=T0;obtain ⟨ha,tp,lp⟩:=id TP
   have hct:(("TooMany":Str),zzz)∈[(("NoTurn":Str),zyx),("NoFit",zzx),("NoRounds",zy),("NoNumber",zyz),("NoRoot",zxx),("TooMany",zzz),("NoKind",zx),("NoText",zw),("NoName",zwz),("NoRow",zv)]:=by simp
   show aq8 _ _ _ _ H
   dsimp only[aq8,ci6,tC,bb1]
   refine ci4 (fun σ H'=>∃(fd:Str) (v4:Option V),σ=[some (.ref d),some (.ref a),some (.int (m:Int)),some (.str fd),v4]/\((16 < p.length/\fd="TooMany")\/(p.length<=16/\av9 p m fd))/\e8 H H') ?_ fun rest=> ?_
   · rintro σ H1 ⟨fd,v4,rfl,due,s1⟩;have l9:=ad0 (i:=(m:Int)) (by omega) (by omega)
     have l10:("soonest p ":Str).length<=10:=by decide+kernel
     have lz:("soonest p ":Str).length+(q9 (m:Int)).length<=sizeLine:=ee0 (show _<=100 by omega) (by rw[sizeLine_eq];decide);refine ⟨_,rfl,_,rfl,_,rfl,ba5 (by omega) (by omega),_,_,rfl,rfl,lz,?_⟩
     try delta V2 R6 tC
     show N4 zzy zzx zzz _ _ _ _ _
     refine cy0 (zzx:=zzx) (D0.keep s1) (TU.keep s1) m1 m2 hct due fun H2 s2=> ?_
     refine ⟨_,rfl,rfl,?_⟩;rw[decide_eq_true rfl];exact k H2 (s1.trans s2)
   · refine ⟨_,rfl,a,_,rfl,.inl (i5.of ha),_,_,rfl,rfl,_,rfl,?_⟩;rw[eb8]
     by_cases l16:p.length<=16
     · rw[decide_eq_true (show (p.length:Int)<=16 by omega)];refine A8 ⟨_,rfl,_,rfl,a,p,m,rfl,TP,l16,m1,by omega,fun v H1 s1 so fo=> ?_⟩;have m3:1<=m:=m1;refine ⟨_,rfl,rfl,_,rfl,_,rfl,a,p,m,rfl,TP.keep s1,m1,m2,fun u H2 s2 bu=> ?_⟩;have s02:=s1.trans s2
       rcases so with ⟨rfl,l,dd,ba⟩|⟨t,o,h,r,rfl,h1,h2,tr,lr,pw,ro,hh⟩
       · rcases bu with ⟨rfl,nb⟩|⟨t,l',d',rfl,br,bb⟩
         · exact absurd (nb l ba.some dd ba.right) ba.bad
         · refine ⟨rfl,rfl,_,rfl,n9 ?_⟩;refine ⟨_,rfl,rfl,_,rfl,n9 ?_⟩;exact rest _ _ ⟨_,_,rfl,.inr ⟨l16,.inl ⟨rfl,l,dd,ba⟩⟩,s02⟩
       · rcases bu with ⟨rfl,nb⟩|⟨t',l',d',rfl,br,bb⟩
         · refine ⟨rfl,rfl,_,rfl,n9 ?_⟩;refine ⟨_,rfl,rfl,_,rfl,A8 ?_⟩;have h1':=s2 _ _ h1;have h2':=s2 _ _ h2;have hle:=av8 tr (by rw[lr];omega) hh;refine ⟨_,rfl,t,_,_,_,rfl,rfl,M6.of h1',o9 (j:=0) rfl,_,rfl,ba5 (by omega) (by omega),?_⟩;refine ⟨_,rfl,t,_,_,_,rfl,rfl,M6.of h1',o9 (j:=1) rfl,o,r,rfl,⟨h2',tr,by rw[lr];omega⟩,fun g H3 s3 lc=> ?_⟩;have eg:g=h:=(as4 tr (at4 r) lc).uniq hh;subst eg;refine ⟨_,rfl,t,_,_,_,rfl,rfl,M6.of (s3 _ _ h1'),o9 (j:=0) rfl,rfl,_,rfl,?_⟩;rw[decide_eq_true rfl];refine n9 ⟨_,rfl,t,_,_,_,rfl,rfl,M6.of (s3 _ _ h1'),o9 (j:=1) rfl,_,rfl,o,r,(m:Int),rfl,⟨s3 _ _ h2',tr,by rw[lr];omega⟩,fun c pt H4 hc s4 pt' g4=> ?_⟩;have ep:=pt'.uniq pw;subst ep;have s04:=s02.trans (s3.trans s4);refine ⟨_,rfl,c,a,_,_,_,rfl,rfl,i5.of g4,i5.of (s04 _ _ ha),ad9 _ _ _ _ _,_,rfl,?_⟩;rw[decide_eq_true rfl];exact n9 (rest _ _ ⟨_,_,rfl,.inr ⟨l16,.inr ⟨g,r,rfl,tr,lr,pw,ro,hh⟩⟩,s04⟩)
         · exact absurd (an0 tr pw br) bb
     · rw[decide_eq_false (show ¬(p.length:Int)<=16 by omega)];exact n9 (rest _ _ ⟨_,_,rfl,.inl ⟨by omega,rfl⟩,e8.refl _⟩)
theorem ca3 {p:List Int}(tp:A1 p)(lp:p.length<=40):(K1 p).length<=5000:=by
 obtain ⟨f1,f2⟩:=O7 tp lp (C1 tp);have:=(at6 f1 f2).2;unfold K1
 have la:∀a b:Str,(a++b).length=a.length+b.length:=fun a b=>by
   show (a++b).cps.size=a.cps.size+b.cps.size;rw[Str.cps_append,ep6]
 have l1:(Str.ofString "(").length=1:=by decide+kernel
 have l2:(Str.ofString ")").length=1:=by decide+kernel
 rw[la,la,l1,l2];omega
theorem ca4 {C:Addr}{H:Hp}{d kd:Addr}{es:List (x5×V)}{pre nm:Str}{p:List Int}{Q:VK}{E:XK}(D:G0 C H d kd es)(e:pre="turn"++" "++nm++" ")(hn:nm="p"\/nm="q")(tp:A1 p)(lp:p.length<=40)(le:es.length<=1000)
   (q:∀l H',H l=none->o5 kd H H'->G0 C H' d kd (P0 es (Sum.inr nm) (.ref l))->H' l=some (.lst (p.map V.int))->Q (.str "ok") H'):L7 C [.ref d,.str (pre++K1 p)] H Q E:=by
 have lt:(K1 p).length<=40000:=ee0 (ca3 tp lp) (by decide);obtain ⟨r1,r2⟩:=ea6 (es:=es) hn lt;exact ⟨d,kd,es,_,"turn",[nm,K1 p],_,rfl,D,cx8 e hn lt,r1,r2,.inl ⟨nm,p,rfl,rfl,tp,lp,le,q⟩⟩
theorem ca5 {p:List Int}(tp:A1 p):C9 p=[]↔p=[]:=by
 have fl:=M4 tp (C1 tp);unfold C9;rw[List.map_eq_nil_iff];constructor
 · intro e;rw[e] at fl;have:=fl.length_eq;rw[bs2] at this;exact eh7.mp this.symm
 · intro e;subst e
   cases h:w5 ([]:List Int) ([]:List Int).length with
   |nil=>rfl
   |cons r rs=>
    have up:=C1 tp;have:=up.ring r (by rw[h];exact ec5);obtain ⟨y,L,hy,_⟩:=this;unfold Mth.In at hy;simp at hy;omega
theorem cy1 {p ms:List Int}(tp:A1 p)(pm:ms.Perm (C9 p)):Txt.join " " (ms.map q9++ed1 (if p.isEmpty=true then 1 else 0) ("none":Str))=ak9 ms:=by
 unfold ak9
 by_cases e:p=[]
 · have k:=(ca5 tp).mpr e;rw[k] at pm;have em:=List.Perm.eq_nil pm;subst em e
   decide+kernel
 · have k:ms≠[]:=fun z=>by
     subst z;exact e ((ca5 tp).mp (List.Perm.nil_eq pm).symm)
   rw[if_neg k,if_neg (by simpa using e),List.replicate_zero,ef4]
theorem Two.but {C:Addr}{H H':Hp}{d kd a b g:Addr}{p q:List Int}(h:Two C H d kd a b p q)(k:o5 g H H')(D:B1 H g)(na:a≠g)(nb:b≠g):Two C H' d kd a b p q:=by
 obtain ⟨⟨dx,h1,h2,h3⟩,⟨a1,a2⟩,⟨b1,b2⟩⟩:=h;obtain ⟨ds,e,_⟩:=D
 have n1:d≠g:=fun z=>by rw[z,e] at h1;cases h1
 have n2:dx≠g:=fun z=>by rw[z,e] at h2;cases h2
 have n3:kd≠g:=fun z=>by rw[z,e] at h3;cases h3
 exact ⟨⟨dx,k _ _ h1 n1,k _ _ h2 n2,k _ _ h3 n3⟩,⟨k _ _ a1 na,a2⟩,⟨k _ _ b1 nb,b2⟩⟩
def bq6 (K:PySem.W.Frag):Sp:=fun vs H Q _=>∃(a:Addr) (ns:List Int),vs=[.ref a]/\i5 K H a (ns.map V.int)/\ns.length<=63/\∀H',Q (.bl true) H'
theorem ag3:m9 ["script","k","deck","p","q","desk","kind"] ["script"] (j6 av3):=by rfl'
theorem bp8:(["length"]:List Str).Nodup:=by decide+kernel
theorem ds7 {f:Addr}{fd:FuncData}(F:x6 K "law" "law" av3 f fd)(B:Bl mg)(yyy:m8 P w K mg base "_law_deck" 2 ["cell","many"] W5)(zex:m8 P w K mg base "_law_cell_at" 1 ["script","k"] (bw4 K))(zky:m8 P w K mg base "_law_turn" 2 ["deck","most"] av6)(zxz:m8 P w K mg base "_law_take" 1 ["deck","many"] ak5)(zby:m8 P w K mg base "_law_second" 3 ["deck","p"] ba7)(yzy:cl6 P w K mg base "Desk" zzy 1 ["self"] (by7 zzy))(zpz:m8 P w K mg base "_law_written" 2 ["p"] ab1)(zr:ao5 P w K mg base zzy "say" 10 ["self","row"] (L7 zzy))(zrz:m8 P w K mg base "_law_kind" 2 ["p"] R4)(zkx:m8 P w K mg base "_law_home" 3 ["p"] aa8)(zhz:m8 P w K mg base "_law_two_right" 12 ["desk","p","q"] (ca2 zzy))(zlz:m8 P w K mg base "_law_soonest_right" 12 ["desk","p","m"] (bk0 zzy))(ysx:m8 P w K mg base "_law_m" 2 ["deck"] cm2):n5 P w K mg base y7 13 f fd ["script"] (bq6 K):=by
 refine F.ok ag3 (fun vs H Q E h=> ?_) (fun cdv A outer s H vs Q E hr h=> ?_)
 · obtain ⟨sc,ns,rfl,hsc,hns,q⟩:=h;rfl
 · obtain ⟨sc,ns,rfl,hsc,hns,q⟩:=h;have ymz:m7 2 _:=hr.mono (by decide);have yrz:m7 1 _:=hr.mono (by decide);have yz:m7 2 _:=hr.mono (by decide);have zwx:m7 1 _:=hr.mono (by decide);have yqx:m7 3 _:=hr.mono (by decide);have yn:m7 (1+1) _:=hr.mono (by decide);have zj:m7 2 _:=hr.mono (by decide);have zqy:m7 10 _:=hr.mono (by decide);have zmz:m7 2 _:=hr.mono (by decide);have yzz:m7 3 _:=hr.mono (by decide);have yvx:m7 12 _:=hr.mono (by decide);have yyx:m7 12 _:=hr.mono (by decide);have hr_law_m:m7 2 _:=hr.mono (by decide);have hu:=O1 hr
   refine ⟨_,c7 (A7 PassesOwn.never rfl (K2 (by rfl) B.range (c5 (cf3 rfl B.max (c5 j4 (c5 (cf2 rfl B.min (c5 (x9 B.len (c5 (pv 0) c6)) (c5 j4 c6))) c6))) c6)) (o7 (i:=1) ag3.nd rfl (Or.inl rfl))
       (c7 (m6 (i:=2) ag3.nd rfl (Or.inl rfl) (i7 yyy ymz (c5 (i7 zex yrz (c5 (pv 0) (c5 (pv 1) c6))) (c5 j4 c6))))
       (c7 (m6 (i:=3) ag3.nd rfl (Or.inl rfl) (i7 zky yz (c5 (pv 2) (c5 (p8 o0 (ay6 [9,9,9,40] rfl) (i7 zxz zwx (c5 (pv 2) (c5 j4 c6))) (fun _ _=>rfl)) c6))))
       (c7 (m6 (i:=4) ag3.nd rfl (Or.inl rfl) (i7 zby yqx (c5 (pv 2) (c5 (pv 3) c6))))
       (c7 (m6 (i:=5) ag3.nd rfl (Or.inl rfl) (dr5 yzy yn))
       (c7 (o6 (R5 (j9 J3 (S9 zr zqy (pv 5) (c5 (q0 J4 j7 (i7 zpz zj (c5 (pv 3) c6))) c6)) j7 (j8 _)) (Q3 (j9 J3 (S9 zr zqy (pv 5) (c5 (q0 J4 j7 (i7 zpz zj (c5 (pv 4) c6))) c6)) j7 (j8 _)))).pt (c8 (j5 E5)) k7)
       (c7 (m6 (i:=6) ag3.nd rfl (Or.inl rfl) (ak1 j7 (c5 (q0 cp9 (G9 (N:=["length"]) (nl:=1) (fr:=[]) rfl .of (A0 (i7 zrz zmz (c5 (pv 3) c6))) (fun _ _ _ _ _=>o7 (i:=0) bp8 rfl (Or.inl rfl)) (fun _ _ _ _ _=>B7) (fun _ _ _ _ _=>(K4 B.str (c5 (pv 0) c6)))) (q0 ar2 (A6 (c5 j7 c6)) (aj8 B.int (c5 (G6 (aj6 0 hu) (pv 3) (A6 c6) (j8 _)) c6)))) c6)))
       (c7 (o6 (R5 (j9 J3 (S9 zr zqy (pv 5) (c5 j7 c6)) (pv 6) (j8 _)) (Q3 (j9 J3 (S9 zr zqy (pv 5) (c5 j7 c6)) (K4 B.str (c5 (i7 zkx yzz (c5 (pv 3) c6)) c6)) (j8 _)))).pt (c8 (j5 E5)) k7)
       (c7 (o6 (R5 (K5 (G8 (i7 zhz yvx (c5 (pv 5) (c5 (pv 3) (c5 (pv 4) c6)))))) (Q3 (K5 (G8 (i7 zlz yyx (c5 (pv 5) (c5 (pv 3) (c5 (i7 ysx hr_law_m (c5 (pv 2) c6)) c6)))))))).pt (c8 (j5 E5)) k7)
       (c8 (o6 (R5 (j9 J3 (S9 zr zqy (pv 5) (c5 j7 c6)) (i7 zpz zj (c5 (pv 3) c6)) (j8 _)) (Q3 (j9 J3 (S9 zr zqy (pv 5) (c5 j7 c6)) (i7 zpz zj (c5 (pv 4) c6)) (j8 _)))).pt (c8 (j5 E5)) k7)))))))))))
     (c8 (j5 E5)),?_⟩
   refine ⟨_,rfl,sc,_,rfl,.inl hsc,_,5,rfl,1,_,rfl,_,rfl,?_⟩;obtain ⟨mx,hmx,hm1,hm2⟩:=dp8 (n:=5) (c:=((ns.map V.int).length:Int)) (by decide) (by omega);rw[hmx]
   refine ⟨by omega,by omega,M7 (lo:=0) (n:=mx.toNat) (fun i σ H2=>∃v1 v2 v3 v4 v5 v6:Option V,σ=[some (.ref sc),v1,v2,v3,v4,v5,v6]/\e8 H H2)
     ⟨none,none,none,none,none,none,rfl,e8.refl H⟩ ?_ (fun σ H2 _=>q H2)⟩
   rintro i σ H2 hi ⟨v1,v2,v3,v4,v5,v6,rfl,s02⟩;refine ⟨_,rfl,_,rfl,sc,ns,_,rfl,s02.seq hsc,by omega,fun z=> ?_⟩;refine ⟨z,160,rfl,by decide,fun g H3 hg s23 D3=> ?_⟩;have hg0:H g=none:=s02.free hg;have s03:=s02.trans s23
   have ng:∀{Hz:Hp} {b:Addr},B1 Hz g->Hz b=none->b≠g:=fun {Hz b} D hb z=>by
     obtain ⟨o,e⟩:=D.some;rw[z,e] at hb;cases hb
   refine ⟨_,rfl,(show 4<=sizeLine by decide),fun ml n4=> ?_⟩;have s4:e8 H3 (i8 H3 ml (.lst (([9,9,9,40]:List Int).map V.int))):=e8.upd_new n4;have g4:(i8 H3 ml (.lst (([9,9,9,40]:List Int).map V.int))) ml=some (.lst (([9,9,9,40]:List Int).map V.int)):=c9;have nmg:=ng D3 n4;have D4:=D3.same s4;generalize (i8 H3 ml (.lst (([9,9,9,40]:List Int).map V.int)))=H4 at s4 g4 D4 ⊢;refine ⟨_,rfl,g,4,rfl,D4,by decide,fun r1 H5 a0 a1 D5 kb5=> ?_⟩;have s05:=(s03.trans s4).kb kb5 hg0
   obtain ⟨m,hm,hat⟩:∃m:Nat,m<=40/\Y2 (([9,9,9,40]:List Int).map V.int) r1=some (.int (m:Int)):=by
     have:r1=0\/r1=1\/r1=2\/r1=3:=by omega
     rcases this with rfl|rfl|rfl|rfl
     · exact ⟨9,by decide,o9 (j:=0) rfl⟩
     · exact ⟨9,by decide,o9 (j:=1) rfl⟩
     · exact ⟨9,by decide,o9 (j:=2) rfl⟩
     · exact ⟨40,by decide,o9 (j:=3) rfl⟩
   refine ⟨ml,_,_,_,rfl,rfl,i5.of (kb5 _ _ g4 nmg),hat,g,m,rfl,D5,hm,fun pa p H6 npa tp lp h6p D6 kb6=> ?_⟩;have npg:=ng D5 npa;have s06:=s05.kb kb6 hg0;refine ⟨_,rfl,_,rfl,g,pa,p,rfl,D6,⟨h6p,tp,lp⟩,npg,fun qa q' H7 nqa tq lq h7q D7 kb7=> ?_⟩;have nqg:=ng D6 nqa;have s07:=s06.kb kb7 hg0;have tap:r9 H7 pa p:=⟨kb7 _ _ h6p npg,tp,lp⟩;have taq:r9 H7 qa q':=⟨h7q,tq,lq⟩;clear s4 g4 kb5 kb6 kb7 hat s23 s02 s03 s05 s06 D3 D4 D5 D6
   refine fun x dx nx ndx nex=> ?_
   refine ⟨x,dx,rfl,c9,by rw[i6 nex];exact c9,fun kd H8 hkd kb8 K8=>⟨rfl,?_⟩⟩
   have s78:e8 H7 H8:=fun b o hb=>kb8 b o (by rw[i6 (i4 hb nx),i6 (i4 hb ndx)];exact hb) (i4 hb nx)
   have hkd7:H7 kd=none:=by
     cases y:H7 kd with
     |none=>rfl
     |some o=>
      rw[i6 (i4 y nx),i6 (i4 y ndx),y] at hkd;cases hkd
   have D8:=D7.same s78;obtain ⟨d1,i1,i2,i3⟩:=id K8
   have lz:∀{u:Str},u.length<=10->∀{r:List Int},A1 r->r.length<=40->u.length+(K1 r).length<=sizeLine:=fun hu r tr lr=>by
     have:=ca3 tr lr;exact ee0 (show _<=6000 by omega) (by rw[sizeLine_eq];decide)
   refine ⟨_,rfl,x,d1,_,rfl,i1,rfl,_,rfl,pa,p,rfl,tap.keep s78,fun H9 s9=> ?_⟩;refine ⟨_,_,rfl,rfl,lz (by decide+kernel) tp lp,?_⟩
   try delta V2 R6 tC
   show L7 zzy _ _ _ _
   refine ca4 (nm:="p") (K8.keep s9) (by decide+kernel) (.inl rfl) tp lp (ee2 _) fun la Ha hla kba Ka ga=> ?_
   rw[dw6] at Ka;have s89:=s78.trans s9;have D9:=D8.same s9;have sA:e8 H7 Ha:=s89.kb kba hkd7;have hla8:=s9.free hla;have nla:la≠g:=D9.ne hla;refine ⟨rfl,_,rfl,n9 ?_⟩;obtain ⟨d2,j1,j2,j3⟩:=id Ka;refine ⟨_,rfl,x,d2,_,rfl,j1,rfl,_,rfl,qa,q',rfl,taq.keep sA,fun Hb sb=> ?_⟩;refine ⟨_,_,rfl,rfl,lz (by decide+kernel) tq lq,?_⟩
   try delta V2 R6 tC
   show L7 zzy _ _ _ _
   refine ca4 (nm:="q") (Ka.keep sb) (by decide+kernel) (.inr rfl) tq lq (show 1<=1000 by decide) fun lb Hc hlb kbc Kc gc=> ?_
   rw[dw7] at Kc;have sB:=sA.trans sb;have sC:e8 H7 Hc:=sB.kb kbc hkd7;have nlb:lb≠g:=(D7.same sB).ne hlb
   have nlk:la≠kd:=fun y=>by rw[y,j3] at ga;cases ga
   have gac:Hc la=some (.lst (p.map V.int)):=kbc _ _ (sb _ _ ga) nlk;have T0:Two zzy Hc x kd la lb p q':=⟨Kc,⟨gac,tp,lp⟩,⟨gc,tq,lq⟩⟩;have S0:e8 H Hc:=s07.trans sC;have tapC:=tap.keep sC;have taqC:=taq.keep sC;have DC:=D7.same sC;clear s9 kba sb kbc Ka ga K8 i1 i2 i3 j1 j2 j3 D9 D8 hla hla8 s89 sA sB hlb nlk kb8 hkd s78 gac;refine ⟨rfl,_,rfl,n9 ?_⟩;refine ⟨rfl,?_⟩;refine ⟨_,rfl,pa,p,rfl,tapC,fun kl ms Hd hkl sd pm pw bd lm gd=> ?_⟩;refine ⟨kl,rfl,⟨_,i5.of gd⟩,C0 (K:=K) (a:=kl) (xs:=ms.map V.int) (fun i ys σ H1=>∃v:Option V,σ=[v]/\H1=Hd/\ys=((ms.take i).map q9).map V.str) ⟨none,rfl,rfl,rfl⟩ (fun i ys σ H1 _ zz=>by obtain ⟨_,_,e,_⟩:=zz;rw[e];exact i5.of gd) ?_ ?_⟩
   · rintro i x ys σ H1 hi ⟨v,rfl,rfl,rfl⟩;obtain ⟨z,hz,rfl⟩:=y9 hi;have zb:=bd z (ec4 hz);refine ⟨_,rfl,z,rfl,ba5 (by omega) (by omega),p9 (by simp only[eb8,ed3];omega),_,rfl,rfl,?_⟩;rw[n6 hz,ec3,ec3];rfl
   rintro ys σ H1 ⟨v,rfl,rfl,rfl⟩ c1 hc1;rw[eb8,ee1];have s1:e8 H1 (i8 H1 c1 (.lst ((ms.map q9).map V.str))):=e8.upd_new hc1;have g1:(i8 H1 c1 (.lst ((ms.map q9).map V.str))) c1=some (.lst ((ms.map q9).map V.str)):=c9;generalize (i8 H1 c1 (.lst ((ms.map q9).map V.str)))=He at s1 g1 ⊢;refine ⟨(show 1<=sizeLine by decide),fun n1 hn1=> ?_⟩;have s2:e8 He (i8 He n1 (.lst [V.str "none"])):=e8.upd_new hn1;have g2:(i8 He n1 (.lst [V.str "none"])) n1=some (.lst [V.str "none"]):=c9;generalize (i8 He n1 (.lst [V.str "none"]))=Hf at s2 g2 ⊢;have sf:=sd.trans (s1.trans s2);refine ⟨_,rfl,ee2 _,fun n2 hn2=> ?_⟩;have s3:e8 Hf (i8 Hf n2 (.lst [])):=e8.upd_new hn2;have g3:(i8 Hf n2 (.lst [])) n2=some (.lst []):=c9;generalize (i8 Hf n2 (.lst []))=Hg at s3 g3 ⊢;refine ⟨pa,n2,_,_,_,rfl,rfl,i5.of (s3 _ _ (sf _ _ tapC.1)),i5.of g3,av0 _ _ _ _,_,rfl,?_⟩
   have ek:(if (if false=true then !(p.map V.int).isEmpty else (p.map V.int).isEmpty)=true then (1:Int) else 0)=((if p.isEmpty=true then 1 else 0:Nat):Int):=by cases p<;>rfl
   rw[ek];have kt:=cy1 tp pm
   have kk1:(if p.isEmpty=true then 1 else 0:Nat)<=1:=by split<;>omega
   generalize (if p.isEmpty=true then 1 else 0:Nat)=kk at kt kk1 ⊢;have sg:=sf.trans s3
   have erep:(ed1 ((kk:Nat):Int).toNat [V.str "none"]).flatten=(ed1 kk ("none":Str)).map V.str:=by
     rw[ed7,ej6,er5]
   refine ⟨n1,(kk:Int),_,rfl,rfl,s3 _ _ g2,by omega,by omega,eh9 (p9 (by simp;omega)),fun n3 hn3=> ?_⟩;rw[erep];have s4:e8 Hg (i8 Hg n3 (.lst ((ed1 kk ("none":Str)).map V.str))):=e8.upd_new hn3;have g4:(i8 Hg n3 (.lst ((ed1 kk ("none":Str)).map V.str))) n3=some (.lst ((ed1 kk ("none":Str)).map V.str)):=c9;generalize (i8 Hg n3 (.lst ((ed1 kk ("none":Str)).map V.str)))=Hh at s4 g4 ⊢;have g1h:=s4 _ _ (s3 _ _ (s2 _ _ g1));refine ⟨c1,n3,_,_,rfl,rfl,g1h,g4,eh9 (p9 (by simp;omega)),fun n4 hn4=> ?_⟩;rw[<-ec3];have s5:e8 Hh (i8 Hh n4 (.lst ((ms.map q9++ed1 kk ("none":Str)).map V.str))):=e8.upd_new hn4;have g5:(i8 Hh n4 (.lst ((ms.map q9++ed1 kk ("none":Str)).map V.str))) n4=some (.lst ((ms.map q9++ed1 kk ("none":Str)).map V.str)):=c9;generalize (i8 Hh n4 (.lst ((ms.map q9++ed1 kk ("none":Str)).map V.str)))=Hi at s5 g5 ⊢
   have jo:JoinOk " " (ms.map q9++ed1 kk ("none":Str))=true:=by
     refine ab0 (B:=9) (fun y hy=> ?_) ?_
     · rcases ed8.mp hy with hy|hy
       · obtain ⟨i,hi,rfl⟩:=ee3.mp hy;have:=bd i hi;exact ad0 (by omega) (by omega)
       · rw[(List.mem_replicate.mp hy).2]
         decide+kernel
     · have sl:(Str.ofString " ").length=1:=by decide+kernel
       rw[ec2,eb8,ei3,sl];omega
   refine ⟨" ",n4,_,rfl,rfl,i5.of g5,jo,?_⟩;rw[kt];have si:=sg.trans (s4.trans s5);have T1:=T0.keep si;have S1:=S0.trans si;have tap1:=tapC.keep si;have taq1:=taqC.keep si;have D1:=DC.same si;clear s1 g1 s2 g2 s3 g3 s4 g4 s5 g5 g1h sg sf sd T0 S0 tapC taqC DC gd hn1 hn2 hn3 hn4 hc1 hkl;have np:M2 la lb "p" la:= .inl ⟨rfl,rfl⟩;have nq:M2 la lb "q" lb:= .inr ⟨rfl,rfl⟩;obtain ⟨e1,k1,_,_⟩:=id T1.desk;refine ⟨_,rfl,x,e1,_,rfl,k1,rfl,?_⟩;show L7 zzy _ _ _ _;refine cm8 T1.desk np (O9 (by decide+kernel) (by decide+kernel) (by decide+kernel) (by decide+kernel) (by simp):M1 "kind p" ["kind","p"]) (by decide+kernel) (by decide+kernel) (.inr (.inl ⟨la,p,rfl,rfl,T1.tp,fun ns Hj sj pn dn=> ?_⟩));have en:ns=ms:=bj9 (pn.trans pm.symm) dn pw;subst en;refine ⟨_,rfl,rfl,_,rfl,R8 rfl ?_⟩;have T2:=T1.keep sj;obtain ⟨e2,k2,_,_⟩:=id T2.desk;refine ⟨_,rfl,x,e2,_,rfl,k2,rfl,?_⟩;show L7 zzy _ _ _ _;refine cm8 T2.desk np (O9 (by decide+kernel) (by decide+kernel) (by decide+kernel) (by decide+kernel) (by simp):M1 "home p" ["home","p"]) (by decide+kernel) (by decide+kernel) (.inr (.inr (.inl ⟨la,p,rfl,rfl,T2.tp,fun h Hk sk hh=> ?_⟩)));refine ⟨_,rfl,pa,p,rfl,tap1.keep (sj.trans sk),fun h' Hl sl lc=> ?_⟩;have eh:h'=h:=(as4 tp (at4 p) lc).uniq hh;subst eh;have hle:=av8 tp lp hh;refine ⟨_,rfl,ba5 (by omega) (by omega),rfl,_,rfl,R8 rfl ?_⟩;have sl':=sj.trans (sk.trans sl);have T3:=T1.keep sl';refine ⟨_,rfl,_,rfl,_,rfl,x,kd,la,lb,pa,qa,p,q',rfl,T3,tap1.keep sl',taq1.keep sl',fun Hm sm=>⟨_,rfl,n9 ?_⟩⟩;have sm':=sl'.trans sm;have Dm:=D1.same sm';refine ⟨_,rfl,_,rfl,_,rfl,g,rfl,Dm,fun m Hn m1 m2 Dn kbn=> ?_⟩;have T4:=(T1.keep sm').but kbn Dm nla nlb;have tapm:=tap1.keep sm';have tapn:r9 Hn pa p:=⟨kbn _ _ tapm.1 npg,tapm.2⟩;have taqm:=taq1.keep sm';have taqn:r9 Hn qa q':=⟨kbn _ _ taqm.1 nqg,taqm.2⟩;have S2:=(S1.trans sm').kb kbn hg0;refine ⟨x,kd,la,lb,pa,p,q',m,rfl,T4,tapn,m1,m2,fun Ho so=>⟨_,rfl,n9 ?_⟩⟩;have T5:=T4.keep so;obtain ⟨e3,k3,_,_⟩:=id T5.desk;refine ⟨_,rfl,x,e3,_,rfl,k3,rfl,?_⟩;show L7 zzy _ _ _ _;refine cm8 T5.desk np (O9 (by decide+kernel) (by decide+kernel) (by decide+kernel) (by decide+kernel) (by simp):M1 "show p" ["show","p"]) (by decide+kernel) (by decide+kernel) (.inl ⟨la,p,rfl,rfl,T5.tp,fun Hp sp=> ?_⟩);refine ⟨_,rfl,pa,p,rfl,tapn.keep (so.trans sp),fun Hq sq=> ?_⟩;refine ⟨rfl,_,rfl,R8 rfl ?_⟩;have sq':=so.trans (sp.trans sq);have T6:=T4.keep sq';obtain ⟨e4,k4,_,_⟩:=id T6.desk;refine ⟨_,rfl,x,e4,_,rfl,k4,rfl,?_⟩;show L7 zzy _ _ _ _;refine cm8 T6.desk nq (O9 (by decide+kernel) (by decide+kernel) (by decide+kernel) (by decide+kernel) (by simp):M1 "show q" ["show","q"]) (by decide+kernel) (by decide+kernel) (.inl ⟨lb,q',rfl,rfl,T6.tq,fun Hr sr=> ?_⟩);refine ⟨_,rfl,qa,q',rfl,taqn.keep (sq'.trans sr),fun Hs ss=> ?_⟩;refine ⟨rfl,_,rfl,R8 rfl ?_⟩;exact ⟨_,_,_,_,_,_,rfl,S2.trans (sq'.trans (sr.trans ss))⟩
end
end My
namespace My
open PySem L2 Mth
theorem L5 {P:List Value->Prop}(h:∀x0,P [x0]):∀us:List Value,us.length=1->P us
 |[_],_=>h _
theorem N9 {P:List Value->Prop}(h:∀x0 x1,P [x0,x1]):∀us:List Value,us.length=2->P us
 |[_,_],_=>h _ _
theorem bn3 {P:List Value->Prop}(h:∀x0 x1 x2,P [x0,x1,x2]):∀us:List Value,us.length=3->P us
 |[_,_,_],_=>h _ _ _
theorem eb6 {l:PySem.W.OpenLaw}{w:World}{K:PySem.W.Frag}{h:Heap}{mg:Str->Option Value}{fa f0 f1 f2 f3 f4 f5 f6 f7 f8 f9 f10 f11 f12 f13 f14 f15 f16 f17 f18 f19 f20 f21 f22 f23 f24 f25 f26 f27 f28 f29 f30 f31 f32 f33 f34 f35 f36 f37 f38 f39 f40 f41 f42 f43 f44 f45 f46 f47 f48 f49 f50 f51 f52 f53 f54 f55 f56 f57 f58 f59 f60 f61 f62 f63 zzy zxy:Addr}{zvy zyx zzx zy zyz zxx zzz zx zw zwz zv:Addr}{tk0 tk1 tk2 tk3 tk4 tk5:Tok}(X:K.In h)(G:h.Ns mainGlobals mg)(hfa:mg "law"=some (.ref fa))
   (uD:PySem.W.nsIn K mainGlobals "Desk"=some (some (.ref zzy)))
   (DF:av7 K zzy)
   (uDm:PySem.W.makesIn K zzy=true)
   (uDk:PySem.W.keepIn K (.ref zzy)=true)
   (uPl:PySem.W.nsIn K mainGlobals "PLACES"=some (some (.ref zxy)))
   (TK:W6 K w zxy)
   (u0:Fu K "is_whole" an2 f0)
   (u1:Fu K "must_be_from_one" Q9 f1)
   (u2:Fu K "greatest_part" X1 f2)
   (u3:Fu K "walk_ring" ai1 f3)
   (u4:Fu K "walk_rings" ae3 f4)
   (u5:Fu K "send_along" ae4 f5)
   (u6:Fu K "send_over" ai2 f6)
   (u7:Fu K "sort_by_length" V6 f7)
   (u8:Fu K "is_turn" as6 f8)
   (u9:Fu K "must_be_turn" Z3 f9)
   (u10:Fu K "must_fit" X2 f10)
   (u11:Fu K "put_behind" R0 f11)
   (u12:Fu K "rounds_of" ai3 f12)
   (u13:Fu K "kind_of" as7 f13)
   (u14:Fu K "home_of" as8 f14)
   (u15:Fu K "are_filled_lists" R3 f15)
   (u16:Fu K "things_in" ai4 f16)
   (u17:Fu K "from_rounds" ab3 f17)
   (u18:Fu K "least_right" ab4 f18)
   (u19:Fu K "join_rings" ae5 f19)
   (u20:Fu K "root_told" ai5 f20)
   (u21:Fu K "go_past" ah0 f21)
   (u22:Fu K "named_anew" X3 f22)
   (u23:Fu K "soonest_root" S6 f23)
   (u24:Fu K "show_round" ae6 f24)
   (u25:Fu K "show_turn" ai6 f25)
   (u26:Fu K "read_thing" ae7 f26)
   (u27:Fu K "read_round" ae8 f27)
   (u28:Fu K "read_rounds" ab5 f28)
   (u29:Fu K "read_turn" ai7 f29)
   (u30:Fu K "is_word_of" ae9 f30)
   (u31:Fu K "is_name" as9 f31)
   (u32:Fu K "is_number" ai8 f32)
   (u33:Fu K "fits_place" af0 f33)
   (u34:Fu K "part_row" an3 f34)
   (u35:Fu K "is_row" az4 f35)
   (u36:Fu K "read_row" an4 f36)
   (u37:Fu K "with_blanks" ab6 f37)
   (u38:Fu K "yes_or_no" ai9 f38)
   (u39:Fu K "show_soonest" S7 f39)
   (u40:Fu K "make_turn" aj0 f40)
   (u41:Fu K "answer_row" X4 f41)
   (u42:FuM K zzy "__init__" "Desk.__init__" aj1 f42)
   (u43:FuM K zzy "look_up" "Desk.look_up" Z4 f43)
   (u44:FuM K zzy "hand_over" "Desk.hand_over" V7 f44)
   (u45:FuM K zzy "say" "Desk.say" ac4 f45)
   (u46:Fu K "_law_cell_at" ab7 f46)
   (u47:Fu K "_law_numbers" ab8 f47)
   (u48:Fu K "_law_deck" an5 f48)
   (u49:Fu K "_law_take" an6 f49)
   (u50:Fu K "_law_turn" an7 f50)
   (u51:Fu K "_law_rounds" af1 f51)
   (u52:Fu K "_law_written" ab9 f52)
   (u53:Fu K "_law_power" aj2 f53)
   (u54:Fu K "_law_said" an8 f54)
   (u55:Fu K "_law_gcd" at3 f55)
   (u56:Fu K "_law_bars" an9 f56)
   (u57:Fu K "_law_kind" ao0 f57)
   (u58:Fu K "_law_home" ao1 f58)
   (u59:Fu K "_law_second" af2 f59)
   (u60:Fu K "_law_two_right" X5 f60)
   (u61:Fu K "_law_m" bh3 f61)
   (u62:Fu K "_law_soonest_right" P2 f62)
   (u63:Fu K "law" av3 f63)
   (m0:PySem.W.nsIn K mainGlobals "FIGURES"=some (some (.str "0123456789" tk0)))
   (m1:PySem.W.nsIn K mainGlobals "LETTERS"=some (some (.str "abcdefghijklmnopqrstuvwxyz" tk1)))
   (m2:PySem.W.nsIn K mainGlobals "MOST_FIGURES"=some (some (.int 9 tk2)))
   (m3:PySem.W.nsIn K mainGlobals "MOST_LETTERS"=some (some (.int 8 tk3)))
   (m4:PySem.W.nsIn K mainGlobals "MOST_THINGS_soonest"=some (some (.int 16 tk4)))
   (m5:PySem.W.nsIn K mainGlobals "MOST_THINGS_turns"=some (some (.int 40 tk5)))
   (zz:Fre K ["len","isinstance","int","bool","list","range","sum","min","max","enumerate","zip","sorted","tuple","str","repr","all","any","set","dict","ValueError"])
   (uT:PySem.W.nsIn K mainGlobals "TurnError"=some (some (.ref zvy)))
   (uTb:PySem.W.mroIn K zvy (.type "BaseException")=some true)
   (uTc:PySem.W.isClsIn K zvy=true)
   (uTt:PySem.W.typeIn K (.ref zvy)=some (.type "type"))
   (uG:PySem.W.specialIn K (.builtin "object.__class__") "__get__"=some (some (.builtin "getset_descriptor.__get__")))
   (uK:PySem.W.takesIn K (.builtin "object.__class__")=some true)
   (uC:bh1 K zvy [(("NoTurn":Str),zyx),(("NoFit":Str),zzx),(("NoRounds":Str),zy),(("NoNumber":Str),zyz),(("NoRoot":Str),zxx),(("TooMany":Str),zzz),(("NoKind":Str),zx),(("NoText":Str),zw),(("NoName":Str),zwz),(("NoRow":Str),zv)])
   (uP:bh2 K [(("NoTurn":Str),zyx),(("NoFit":Str),zzx),(("NoRounds":Str),zy),(("NoNumber":Str),zyz),(("NoRoot":Str),zxx),(("TooMany":Str),zzz),(("NoKind":Str),zx),(("NoText":Str),zw),(("NoName":Str),zwz),(("NoRow":Str),zv)] 0 [(("NoTurn":Str),zyx),(("NoFit":Str),zzx),(("NoRounds":Str),zy),(("NoNumber":Str),zyz),(("NoRoot":Str),zxx),(("TooMany":Str),zzz),(("NoKind":Str),zx),(("NoText":Str),zw),(("NoName":Str),zwz),(("NoRow":Str),zv)])
   :∃fd:FuncData,(∀(s:Shared) (v:Value),BindsTo s fd ⟨[v],[]⟩ [("script",v)])/\∀base:Heap,K.In base->base.Ns mainGlobals mg->n5 l.prog w K mg base y7 13 fa fd ["script"] (bq6 K):=by
 obtain ⟨d0,a0,F0⟩:=u0;obtain ⟨d1,a1,F1⟩:=u1;obtain ⟨d2,a2,F2⟩:=u2;obtain ⟨d3,a3,F3⟩:=u3;obtain ⟨d4,a4,F4⟩:=u4;obtain ⟨d5,a5,F5⟩:=u5;obtain ⟨d6,a6,F6⟩:=u6;obtain ⟨d7,a7,F7⟩:=u7;obtain ⟨d8,a8,F8⟩:=u8;obtain ⟨d9,a9,F9⟩:=u9;obtain ⟨d10,a10,F10⟩:=u10;obtain ⟨d11,a11,F11⟩:=u11;obtain ⟨d12,a12,F12⟩:=u12;obtain ⟨d13,a13,F13⟩:=u13;obtain ⟨d14,a14,F14⟩:=u14;obtain ⟨d15,a15,F15⟩:=u15;obtain ⟨d16,a16,F16⟩:=u16;obtain ⟨d17,a17,F17⟩:=u17;obtain ⟨d18,a18,F18⟩:=u18;obtain ⟨d19,a19,F19⟩:=u19;obtain ⟨d20,a20,F20⟩:=u20;obtain ⟨d21,a21,F21⟩:=u21;obtain ⟨d22,a22,F22⟩:=u22;obtain ⟨d23,a23,F23⟩:=u23;obtain ⟨d24,a24,F24⟩:=u24;obtain ⟨d25,a25,F25⟩:=u25;obtain ⟨d26,a26,F26⟩:=u26;obtain ⟨d27,a27,F27⟩:=u27;obtain ⟨d28,a28,F28⟩:=u28;obtain ⟨d29,a29,F29⟩:=u29;obtain ⟨d30,a30,F30⟩:=u30;obtain ⟨d31,a31,F31⟩:=u31;obtain ⟨d32,a32,F32⟩:=u32;obtain ⟨d33,a33,F33⟩:=u33;obtain ⟨d34,a34,F34⟩:=u34;obtain ⟨d35,a35,F35⟩:=u35;obtain ⟨d36,a36,F36⟩:=u36;obtain ⟨d37,a37,F37⟩:=u37;obtain ⟨d38,a38,F38⟩:=u38;obtain ⟨d39,a39,F39⟩:=u39;obtain ⟨d40,a40,F40⟩:=u40;obtain ⟨d41,a41,F41⟩:=u41;obtain ⟨d42,a42,F42⟩:=u42;obtain ⟨d43,a43,F43⟩:=u43;obtain ⟨d44,a44,F44⟩:=u44;obtain ⟨d45,a45,F45⟩:=u45;obtain ⟨d46,a46,F46⟩:=u46;obtain ⟨d47,a47,F47⟩:=u47;obtain ⟨d48,a48,F48⟩:=u48;obtain ⟨d49,a49,F49⟩:=u49;obtain ⟨d50,a50,F50⟩:=u50;obtain ⟨d51,a51,F51⟩:=u51;obtain ⟨d52,a52,F52⟩:=u52;obtain ⟨d53,a53,F53⟩:=u53;obtain ⟨d54,a54,F54⟩:=u54;obtain ⟨d55,a55,F55⟩:=u55;obtain ⟨d56,a56,F56⟩:=u56;obtain ⟨d57,a57,F57⟩:=u57;obtain ⟨d58,a58,F58⟩:=u58;obtain ⟨d59,a59,F59⟩:=u59;obtain ⟨d60,a60,F60⟩:=u60;obtain ⟨d61,a61,F61⟩:=u61;obtain ⟨d62,a62,F62⟩:=u62;obtain ⟨d63,a63,F63⟩:=u63;have e:=hfa.symm.trans (PySem.W.mg_of X G a63);cases e;obtain ⟨z0,z1,z2,z3,z4,z5,z6,z7,z8,z9,z10,z11,z12,z13,z14,z15,z16,z17,z18,z19,_⟩:=zz;have zn {y:Str} (z:PySem.W.nsIn K mainGlobals y=some none):=PySem.W.mg_none_of X G z;have B:Bl mg:=⟨zn z0,zn z1,zn z2,zn z3,zn z4,zn z5,zn z6,zn z7,zn z8,zn z9,zn z10,zn z11,zn z12,zn z13,zn z14,zn z15,zn z16,zn z17,zn z18,zn z19⟩;have ywz:∃t,mg "FIGURES"=some (.str "0123456789" t):=⟨_,PySem.W.mg_of X G m0⟩;have yw:∃t,mg "LETTERS"=some (.str "abcdefghijklmnopqrstuvwxyz" t):=⟨_,PySem.W.mg_of X G m1⟩;have zhx:∃t,mg "MOST_FIGURES"=some (.int 9 t):=⟨_,PySem.W.mg_of X G m2⟩;have zhy:∃t,mg "MOST_LETTERS"=some (.int 8 t):=⟨_,PySem.W.mg_of X G m3⟩;have zvz:∃t,mg "MOST_THINGS_soonest"=some (.int 16 t):=⟨_,PySem.W.mg_of X G m4⟩;have mt:∃t,mg "MOST_THINGS_turns"=some (.int 40 t):=⟨_,PySem.W.mg_of X G m5⟩;have ER:bu6 K mg zvy [(("NoTurn":Str),zyx),(("NoFit":Str),zzx),(("NoRounds":Str),zy),(("NoNumber":Str),zyz),(("NoRoot":Str),zxx),(("TooMany":Str),zzz),(("NoKind":Str),zx),(("NoText":Str),zw),(("NoName":Str),zwz),(("NoRow":Str),zv)]:=cu7 X G uT uTb uTc uTt uG uK uC uP (show (["NoTurn","NoFit","NoRounds","NoNumber","NoRoot","TooMany","NoKind","NoText","NoName","NoRow"]:List Str).Nodup by decide+kernel)
 have ES:∀p∈[(("NoTurn":Str),zyx),(("NoFit":Str),zzx),(("NoRounds":Str),zy),(("NoNumber":Str),zyz),(("NoRoot":Str),zxx),(("TooMany":Str),zzz),(("NoKind":Str),zx),(("NoText":Str),zw),(("NoName":Str),zwz),(("NoRow":Str),zv)],dz9 K p.2:=fun p hp=>⟨(uC.get p hp).s,(uC.get p hp).b⟩
 have e_NoTurn:Err K mg "NoTurn" zyx:=ER.err ("NoTurn",zyx) (by simp);have ytx:Err K mg "NoFit" zzx:=ER.err ("NoFit",zzx) (by simp);have e_NoRounds:Err K mg "NoRounds" zy:=ER.err ("NoRounds",zy) (by simp);have e_NoNumber:Err K mg "NoNumber" zyz:=ER.err ("NoNumber",zyz) (by simp);have e_NoRoot:Err K mg "NoRoot" zxx:=ER.err ("NoRoot",zxx) (by simp);have yxx:Err K mg "TooMany" zzz:=ER.err ("TooMany",zzz) (by simp);have e_NoKind:Err K mg "NoKind" zx:=ER.err ("NoKind",zx) (by simp);have e_NoText:Err K mg "NoText" zw:=ER.err ("NoText",zw) (by simp);have e_NoName:Err K mg "NoName" zwz:=ER.err ("NoName",zwz) (by simp);have e_NoRow:Err K mg "NoRow" zv:=ER.err ("NoRow",zv) (by simp);have ztx:=PySem.W.mg_of X G uPl
 have b0:=F0.binds (ps:=["thing"]) fun _ _ _ _ _ _=>L5 fun _=>rfl
 have b1:=F1.binds (ps:=["number"]) fun _ _ _ _ _ _=>L5 fun _=>rfl
 have b2:=F2.binds (ps:=["a","b"]) fun _ _ _ _ _ _=>N9 fun _ _=>rfl
 have b3:=F3.binds (ps:=["p","first"]) fun _ _ _ _ _ _=>N9 fun _ _=>rfl
 have b4:=F4.binds (ps:=["p"]) fun _ _ _ _ _ _=>L5 fun _=>rfl
 have b5:=F5.binds (ps:=["target","ring","steps"]) fun _ _ _ _ _ _=>bn3 fun _ _ _=>rfl
 have b6:=F6.binds (ps:=["target","ring","image"]) fun _ _ _ _ _ _=>bn3 fun _ _ _=>rfl
 have b7:=F7.binds (ps:=["rings"]) fun _ _ _ _ _ _=>L5 fun _=>rfl
 have b8:=F8.binds (ps:=["thing"]) fun _ _ _ _ _ _=>L5 fun _=>rfl
 have b9:=F9.binds (ps:=["thing"]) fun _ _ _ _ _ _=>L5 fun _=>rfl
 have b10:=F10.binds (ps:=["p","q"]) fun _ _ _ _ _ _=>N9 fun _ _=>rfl
 have b11:=F11.binds (ps:=["p","q"]) fun _ _ _ _ _ _=>N9 fun _ _=>rfl
 have b12:=F12.binds (ps:=["p"]) fun _ _ _ _ _ _=>L5 fun _=>rfl
 have b13:=F13.binds (ps:=["p"]) fun _ _ _ _ _ _=>L5 fun _=>rfl
 have b14:=F14.binds (ps:=["p"]) fun _ _ _ _ _ _=>L5 fun _=>rfl
 have b15:=F15.binds (ps:=["rounds"]) fun _ _ _ _ _ _=>L5 fun _=>rfl
 have b16:=F16.binds (ps:=["rounds"]) fun _ _ _ _ _ _=>L5 fun _=>rfl
 have b17:=F17.binds (ps:=["rounds"]) fun _ _ _ _ _ _=>L5 fun _=>rfl
 have b18:=F18.binds (ps:=["l","m"]) fun _ _ _ _ _ _=>N9 fun _ _=>rfl
 have b19:=F19.binds (ps:=["rings","m"]) fun _ _ _ _ _ _=>N9 fun _ _=>rfl
 have b20:=F20.binds (ps:=["p","m"]) fun _ _ _ _ _ _=>N9 fun _ _=>rfl
 have b21:=F21.binds (ps:=["p","q"]) fun _ _ _ _ _ _=>N9 fun _ _=>rfl
 have b22:=F22.binds (ps:=["p","q"]) fun _ _ _ _ _ _=>N9 fun _ _=>rfl
 have b23:=F23.binds (ps:=["p","m"]) fun _ _ _ _ _ _=>N9 fun _ _=>rfl
 have b24:=F24.binds (ps:=["ring"]) fun _ _ _ _ _ _=>L5 fun _=>rfl
 have b25:=F25.binds (ps:=["p"]) fun _ _ _ _ _ _=>L5 fun _=>rfl
 have b26:=F26.binds (ps:=["word"]) fun _ _ _ _ _ _=>L5 fun _=>rfl
 have b27:=F27.binds (ps:=["text"]) fun _ _ _ _ _ _=>L5 fun _=>rfl
 have b28:=F28.binds (ps:=["text"]) fun _ _ _ _ _ _=>L5 fun _=>rfl
 have b29:=F29.binds (ps:=["text"]) fun _ _ _ _ _ _=>L5 fun _=>rfl
 have b30:=F30.binds (ps:=["signs","most","word"]) fun _ _ _ _ _ _=>bn3 fun _ _ _=>rfl
 have b31:=F31.binds (ps:=["word"]) fun _ _ _ _ _ _=>L5 fun _=>rfl
 have b32:=F32.binds (ps:=["word"]) fun _ _ _ _ _ _=>L5 fun _=>rfl
 have b33:=F33.binds (ps:=["word","place"]) fun _ _ _ _ _ _=>N9 fun _ _=>rfl
 have b34:=F34.binds (ps:=["row"]) fun _ _ _ _ _ _=>L5 fun _=>rfl
 have b35:=F35.binds (ps:=["words"]) fun _ _ _ _ _ _=>L5 fun _=>rfl
 have b36:=F36.binds (ps:=["row"]) fun _ _ _ _ _ _=>L5 fun _=>rfl
 have b37:=F37.binds (ps:=["things"]) fun _ _ _ _ _ _=>L5 fun _=>rfl
 have b38:=F38.binds (ps:=["truth"]) fun _ _ _ _ _ _=>L5 fun _=>rfl
 have b39:=F39.binds (ps:=["p","m"]) fun _ _ _ _ _ _=>N9 fun _ _=>rfl
 have b40:=F40.binds (ps:=["word","handed"]) fun _ _ _ _ _ _=>N9 fun _ _=>rfl
 have b41:=F41.binds (ps:=["word","handed"]) fun _ _ _ _ _ _=>N9 fun _ _=>rfl
 have b42:=F42.binds (ps:=["self"]) fun _ _ _ _ _ _=>L5 fun _=>rfl
 have b43:=F43.binds (ps:=["self","name"]) fun _ _ _ _ _ _=>N9 fun _ _=>rfl
 have b44:=F44.binds (ps:=["self","words"]) fun _ _ _ _ _ _=>N9 fun _ _=>rfl
 have b45:=F45.binds (ps:=["self","row"]) fun _ _ _ _ _ _=>N9 fun _ _=>rfl
 have b46:=F46.binds (ps:=["script","k"]) fun _ _ _ _ _ _=>N9 fun _ _=>rfl
 have b47:=F47.binds (ps:=["cell","many"]) fun _ _ _ _ _ _=>N9 fun _ _=>rfl
 have b48:=F48.binds (ps:=["cell","many"]) fun _ _ _ _ _ _=>N9 fun _ _=>rfl
 have b49:=F49.binds (ps:=["deck","many"]) fun _ _ _ _ _ _=>N9 fun _ _=>rfl
 have b50:=F50.binds (ps:=["deck","most"]) fun _ _ _ _ _ _=>N9 fun _ _=>rfl
 have b51:=F51.binds (ps:=["p"]) fun _ _ _ _ _ _=>L5 fun _=>rfl
 have b52:=F52.binds (ps:=["p"]) fun _ _ _ _ _ _=>L5 fun _=>rfl
 have b53:=F53.binds (ps:=["p","k"]) fun _ _ _ _ _ _=>N9 fun _ _=>rfl
 have b54:=F54.binds (ps:=["desk","row"]) fun _ _ _ _ _ _=>N9 fun _ _=>rfl
 have b55:=F55.binds (ps:=["one","other"]) fun _ _ _ _ _ _=>N9 fun _ _=>rfl
 have b56:=F56.binds (ps:=["p","m"]) fun _ _ _ _ _ _=>N9 fun _ _=>rfl
 have b57:=F57.binds (ps:=["p"]) fun _ _ _ _ _ _=>L5 fun _=>rfl
 have b58:=F58.binds (ps:=["p"]) fun _ _ _ _ _ _=>L5 fun _=>rfl
 have b59:=F59.binds (ps:=["deck","p"]) fun _ _ _ _ _ _=>N9 fun _ _=>rfl
 have b60:=F60.binds (ps:=["desk","p","q"]) fun _ _ _ _ _ _=>bn3 fun _ _ _=>rfl
 have b61:=F61.binds (ps:=["deck"]) fun _ _ _ _ _ _=>L5 fun _=>rfl
 have b62:=F62.binds (ps:=["desk","p","m"]) fun _ _ _ _ _ _=>bn3 fun _ _ _=>rfl
 obtain ⟨oc,od,kV,dc,pm,an,cd,ct,sl,rfl,lk,hcd⟩:=id F63.ex;refine ⟨PySem.W.fnOf "law" "law" (Y7 av3) (R7 av3) (j6 av3) .none kV dc pm an cd ct,fun s v=> .of_eq rfl,fun base _ _=> ?_⟩;have yuz:m8 l.prog w K mg base "is_whole" 1 ["thing"] (av4 K):=p7 X G a0 F0 b0 (dc0 F0 B);have zgx:m8 l.prog w K mg base "must_be_from_one" 2 ["number"] bq3:=p7 X G a1 F1 b1 (dq9 F1 yuz);have zbx:m8 l.prog w K mg base "greatest_part" 1 ["a","b"] bq1:=p7 X G a2 F2 b2 (dq6 F2);have ymy:m8 l.prog w K mg base "walk_ring" 1 ["p","first"] bv0:=p7 X G a3 F3 b3 (dk4 F3);have zoy:m8 l.prog w K mg base "walk_rings" 2 ["p"] J0:=p7 X G a4 F4 b4 (dc2 F4 B ymy);have ynz:m8 l.prog w K mg base "send_along" 1 ["target","ring","steps"] bv1:=p7 X G a5 F5 b5 (dk5 F5 B);have zgy:m8 l.prog w K mg base "send_over" 1 ["target","ring","image"] bx0:=p7 X G a6 F6 b6 (bx1 F6 B);have zty:m8 l.prog w K mg base "sort_by_length" 1 ["rings"] av5:=p7 X G a7 F7 b7 (dc6 F7 B);have yry:m8 l.prog w K mg base "is_turn" 2 ["thing"] ao2:=p7 X G a8 F8 b8 (cu8 F8 B mt yuz);have zyy:m8 l.prog w K mg base "must_be_turn" 3 ["thing"] af3:=p7 X G a9 F9 b9 (dk2 F9 yry);have yvz:Q8 l.prog w K mg base "must_fit" 1 ["p","q"] (fun vs H Q E=>(ao3 K) vs H Q E\/(be5 zzx) vs H Q E):=Z2 X G a10 F10 b10 (n5.or (n5.lift (cu9 F10 B)) (bx3 F10 B ytx));have zsy:m8 l.prog w K mg base "must_fit" 1 ["p","q"] (ao3 K):=p7 X G a10 F10 b10 (cu9 F10 B);have yp:Q8 l.prog w K mg base "put_behind" 4 ["p","q"] (fun vs H Q E=>af4 vs H Q E\/(X7 zzx) vs H Q E):=Z2 X G a11 F11 b11 (n5.or (n5.lift (bm7 F11 zyy zsy)) (bi7 F11 zyy yvz));have zrx:m8 l.prog w K mg base "put_behind" 4 ["p","q"] af4:=p7 X G a11 F11 b11 (bm7 F11 zyy zsy);have zjy:m8 l.prog w K mg base "rounds_of" 4 ["p"] J0:=p7 X G a12 F12 b12 (cb7 F12 zyy zoy);have zt:m8 l.prog w K mg base "kind_of" 5 ["p"] R4:=p7 X G a13 F13 b13 (dk6 F13 B B.sorted zjy);have zry:m8 l.prog w K mg base "home_of" 6 ["p"] aa8:=p7 X G a14 F14 b14 (dk7 F14 zt zbx);have ywx:m8 l.prog w K mg base "are_filled_lists" 1 ["rounds"] az7:=p7 X G a15 F15 b15 (cv0 F15 B);have ymx:m8 l.prog w K mg base "things_in" 1 ["rounds"] az8:=p7 X G a16 F16 b16 (cv1 F16);have ziz:m8 l.prog w K mg base "from_rounds" 3 ["rounds"] be0:=p7 X G a17 F17 b17 (dk8 F17 ywx ymx yry ynz);have ypz:m8 l.prog w K mg base "least_right" 3 ["l","m"] dc3:=p7 X G a18 F18 b18 (dv4 F18 zgx zbx);have yny:m8 l.prog w K mg base "join_rings" 1 ["rings","m"] bv8:=p7 X G a19 F19 b19 (dk9 F19 B);have zpx:m8 l.prog w K mg base "root_told" 5 ["p","m"] be1:=p7 X G a20 F20 b20 (dl0 F20 B zjy zty zgx ypz yny ziz);have cx_go_past:Q8 l.prog w K mg base "go_past" 5 ["p","q"] (fun vs H Q E=>bx4 vs H Q E\/(X7 zzx) vs H Q E):=Z2 X G a21 F21 b21 (n5.or (n5.lift (be7 F21 zrx)) (cc4 F21 yp));have ziy:m8 l.prog w K mg base "go_past" 5 ["p","q"] bx4:=p7 X G a21 F21 b21 (be7 F21 zrx);have ypy:Q8 l.prog w K mg base "named_anew" 6 ["p","q"] (fun vs H Q E=>ak7 vs H Q E\/(X7 zzx) vs H Q E):=Z2 X G a22 F22 b22 (n5.or (n5.lift (aq1 F22 B zyy zsy zt zty zoy zgy)) (bi8 F22 zyy yvz))
 have znz:m8 l.prog w K mg base "named_anew" 6 ["p","q"] ak7:=p7 X G a22 F22 b22 (aq1 F22 B zyy zsy zt zty zoy zgy);have yuy:Q8 l.prog w K mg base "soonest_root" 7 ["p","m"] (fun vs H Q E=>ak4 vs H Q E\/(ac9 zzz) vs H Q E):=Z2 X G a23 F23 b23 (n5.or (n5.lift (ah2 F23 B zvz (bw3 zpx) (ah1 zry))) (ba1 F23 B zvz zpx yxx));have zuz:m8 l.prog w K mg base "soonest_root" 7 ["p","m"] ak4:=p7 X G a23 F23 b23 (ah2 F23 B zvz (bw3 zpx) (ah1 zry));have zdx:m8 l.prog w K mg base "show_round" 1 ["ring"] bi1:=p7 X G a24 F24 b24 (bo7 F24 B);have ztz:m8 l.prog w K mg base "show_turn" 5 ["p"] ab1:=p7 X G a25 F25 b25 (bw6 F25 zjy zdx);have zc:m8 l.prog w K mg base "read_thing" 1 ["word"] bi2:=p7 X G a26 F26 b26 (bo8 F26 B mt);have zcz:m8 l.prog w K mg base "read_round" 2 ["text"] bi3:=p7 X G a27 F27 b27 (bp0 F27 zc);have zfy:m8 l.prog w K mg base "read_rounds" 3 ["text"] ba0:=p7 X G a28 F28 b28 (bi5 F28 zcz);have zay:m8 l.prog w K mg base "read_turn" 6 ["text"] bw7:=p7 X G a29 F29 b29 (bw8 F29 B zfy ziz ztz);have zox:m8 l.prog w K mg base "is_word_of" 1 ["signs","most","word"] ao9:=p7 X G a30 F30 b30 (bp3 F30 B);have ywy:m8 l.prog w K mg base "is_name" 2 ["word"] by1:=p7 X G a31 F31 b31 (cm0 F31 zhy yw zox);have zaz:m8 l.prog w K mg base "is_number" 2 ["word"] ba3:=p7 X G a32 F32 b32 (by4 F32 zhx ywz zox);have zcy:m8 l.prog w K mg base "fits_place" 3 ["word","place"] by5:=p7 X G a33 F33 b33 (bp5 F33 zaz ywy);have yzx:m8 l.prog w K mg base "part_row" 1 ["row"] by6:=p7 X G a34 F34 b34 (cc7 F34);have yvy:m8 l.prog w K mg base "is_row" 4 ["words"] bj3:=p7 X G a35 F35 b35 (cx2 F35 B zcy ztx TK);have znx:m8 l.prog w K mg base "read_row" 5 ["row"] ah4:=p7 X G a36 F36 b36 (cc8 F36 B yzx yvy);have zwy:m8 l.prog w K mg base "with_blanks" 1 ["things"] Z6:=p7 X G a37 F37 b37 (bj5 F37 B);have zsx:m8 l.prog w K mg base "yes_or_no" 1 ["truth"] bq5:=p7 X G a38 F38 b38 (bz3 F38);have yux:Q8 l.prog w K mg base "show_soonest" 8 ["p","m"] (fun vs H Q E=>Y0 vs H Q E\/(ac9 zzz) vs H Q E):=Z2 X G a39 F39 b39 (n5.or (n5.lift (ah5 F39 B zuz)) (ba6 F39 yuy));have zqx:m8 l.prog w K mg base "show_soonest" 8 ["p","m"] Y0:=p7 X G a39 F39 b39 (ah5 F39 B zuz);have zo:m8 l.prog w K mg base "make_turn" 7 ["word","handed"] bf2:=p7 X G a40 F40 b40 (bz5 F40 zay);have ypx:Q8 l.prog w K mg base "answer_row" 9 ["word","handed"] (fun vs H Q E=>bf3 vs H Q E\/(bz6 zzx zzz) vs H Q E):=Z2 X G a41 F41 b41 (n5.or (n5.lift (aq3 F41 B ztz zwy zt (ah1 zry) zqx zsx ziy znz)) (bj7 F41 B ztz zwy zt zry yux zsx cx_go_past ypy));have zny:m8 l.prog w K mg base "answer_row" 9 ["word","handed"] bf3:=p7 X G a41 F41 b41 (aq3 F41 B ztz zwy zt (ah1 zry) zqx zsx ziy znz);have yzy:cl6 l.prog w K mg base "Desk" zzy 1 ["self"] (by7 zzy):=dl9 X G uD uDm uDk a42 b42 (by9 F42 DF);have zgz:ao5 l.prog w K mg base zzy "look_up" 1 ["self","name"] (bz0 zzy):=bj1 DF.cl a43 b43 (bf0 F43 DF);have zux:ao5 l.prog w K mg base zzy "hand_over" 2 ["self","words"] (bf1 zzy):=bj1 DF.cl a44 b44 (aw2 F44 B zgz ztx TK);have yl:bq4 l.prog w K mg base zzy "say" 10 ["self","row"] (fun vs H Q E=>(L7 zzy) vs H Q E\/(ab2 zzy zzx zzz) vs H Q E):=dd5 DF.cl a45 b45 (n5.or (n5.lift (ax4 F45 znx zux zwy zo zny DF ztx TK)) (bz7 F45 znx zux zwy zo ypx DF ztx TK))
 have zr:ao5 l.prog w K mg base zzy "say" 10 ["self","row"] (L7 zzy):=bj1 DF.cl a45 b45 (ax4 F45 znx zux zwy zo zny DF ztx TK);have zex:m8 l.prog w K mg base "_law_cell_at" 1 ["script","k"] (bw4 K):=p7 X G a46 F46 b46 (bh9 F46 B);have zfz:m8 l.prog w K mg base "_law_numbers" 1 ["cell","many"] W5:=p7 X G a47 F47 b47 (bi0 F47 B);have yyy:m8 l.prog w K mg base "_law_deck" 2 ["cell","many"] W5:=p7 X G a48 F48 b48 (cb9 F48 zfz);have zxz:m8 l.prog w K mg base "_law_take" 1 ["deck","many"] ak5:=p7 X G a49 F49 b49 (cc1 F49);have zky:m8 l.prog w K mg base "_law_turn" 2 ["deck","most"] av6:=p7 X G a50 F50 b50 (cc2 F50 B zxz);have zvx:m8 l.prog w K mg base "_law_rounds" 1 ["p"] J0:=p7 X G a51 F51 b51 (bo5 F51 B);have zpz:m8 l.prog w K mg base "_law_written" 2 ["p"] ab1:=p7 X G a52 F52 b52 (bi6 F52 B zvx);have zmy:m8 l.prog w K mg base "_law_power" 2 ["p","k"] be4:=p7 X G a53 F53 b53 (bw9 F53 B zvx);have zqz:m8 l.prog w K mg base "_law_said" 11 ["desk","row"] (N4 zzy zzx zzz [("NoTurn",zyx),("NoFit",zzx),("NoRounds",zy),("NoNumber",zyz),("NoRoot",zxx),("TooMany",zzz),("NoKind",zx),("NoText",zw),("NoName",zwz),("NoRow",zv)]):=p7 X G a54 F54 b54 (cc9 F54 B yl ER);have zk:m8 l.prog w K mg base "_law_gcd" 1 ["one","other"] bf4:=p7 X G a55 F55 b55 (cm1 F55);have yyz:m8 l.prog w K mg base "_law_bars" 2 ["p","m"] ba8:=p7 X G a56 F56 b56 (cd5 F56 B zvx zk);have zrz:m8 l.prog w K mg base "_law_kind" 2 ["p"] R4:=p7 X G a57 F57 b57 (cd1 F57 B zvx);have zkx:m8 l.prog w K mg base "_law_home" 3 ["p"] aa8:=p7 X G a58 F58 b58 (cd2 F58 zrz zk);have zby:m8 l.prog w K mg base "_law_second" 3 ["deck","p"] ba7:=p7 X G a59 F59 b59 (bp6 F59 B zxz zky zmy);have zhz:m8 l.prog w K mg base "_law_two_right" 12 ["desk","p","q"] (ca2 zzy):=p7 X G a60 F60 b60 (ba9 F60 B zrz zqz);have ysx:m8 l.prog w K mg base "_law_m" 2 ["deck"] cm2:=p7 X G a61 F61 b61 (dd8 F61 zxz);have zlz:m8 l.prog w K mg base "_law_soonest_right" 12 ["desk","p","m"] (bk0 zzy):=p7 X G a62 F62 b62 (ap5 F62 B zuz yyz zkx zmy zqz);exact ds7 F63 B yyy zex zky zxz zby yzy zpz zr zrz zkx zhz zlz ysx
theorem eb7 {l:PySem.W.OpenLaw}{q:Program}{loose:List Str}{XP:(Str->Option Value)->Heap->Prop}{YP:World->Heap->Prop}{d:DefRec}{K:Params->PySem.W.Frag}(hn:l.most=some 63)(hdf:d.params.defaults=[])
   (hY:∀(w:World) (h:Heap),YP w h->(K w.params).In h)
   (F:∀(w:World) (mg:Str->Option Value) (fa:Addr) (h:Heap),(K w.params).In h->h.Ns mainGlobals mg->mg d.name=some (.ref fa)->
     ∃fd:FuncData,(∀(s:Shared) (u:Value),BindsTo s fd ⟨[u],[]⟩ [("script",u)])/\∀base:Heap,(K w.params).In base->base.Ns mainGlobals mg->n5 l.prog w (K w.params) mg base y7 13 fa fd ["script"] (bq6 (K w.params))):
   PySem.W.WalkO q loose XP YP l.row.toRowW d [] (fun f vs=>PySem.call f vs):=
 L2.ea8 (n:=63) (k:=13) (x:="script") (CX:=fun _=>y7) (sp:=fun w=>bq6 (K w.params)) hn (by decide) hdf ⟨rfl,by decide,by decide,rfl⟩ hY F (fun _ _ a ns hl _ hS=>⟨a,ns,rfl,hS,hl,fun _=>rfl⟩) fun _ _ _ _ _ z=>z
end My
end
def PySem.W.Fast.tw15564986532874955720 : Unit := ()
def PySem.W.Fast.tw1497148145221180500 : Unit := ()
def PySem.W.Fast.tw13119245200980090461 : Unit := ()
def PySem.W.Fast.tw8846405160143046299 : Unit := ()
def PySem.W.Fast.tw5586556441542989398 : Unit := ()
def PySem.W.Fast.tw14729418308302203150 : Unit := ()
def PySem.W.Fast.tw11422737109801860309 : Unit := ()
def PySem.W.Fast.tw6793461405128412252 : Unit := ()
def PySem.W.Fast.tw13240982788770520605 : Unit := ()
def PySem.W.Fast.tw1194824333674978470 : Unit := ()
def PySem.W.Fast.tw1687212708219226603 : Unit := ()
def PySem.W.Fast.tw13779681527618702740 : Unit := ()
def PySem.W.Fast.tw4814207021353982598 : Unit := ()
def PySem.W.Fast.tw14424210185956214721 : Unit := ()
def PySem.W.Fast.tw18177694794298953713 : Unit := ()
def PySem.W.Fast.tw3049273325396653606 : Unit := ()
def PySem.W.Fast.tw5955769700742874828 : Unit := ()
def PySem.W.Fast.tw16671478329908415799 : Unit := ()
def PySem.W.Fast.tw12216939107685553562 : Unit := ()
def PySem.W.Fast.tw8600883628103279064 : Unit := ()
def PySem.W.Fast.tw7615742663047661760 : Unit := ()
abbrev PySem.W.Fast.tw40757781841878199:PySem.Program:=PySem.Challenge.pw_turnroots_k51_asked_at_the_desk
theorem PySem.W.Fast.te40757781841878199:PySem.Challenge.pw_turnroots_k51_asked_at_the_desk=PySem.W.Fast.tw40757781841878199:=rfl
abbrev PySem.W.Fast.tw90343872475197607:Type:=PySem.Params
theorem PySem.W.Fast.te90343872475197607:PySem.Params=PySem.W.Fast.tw90343872475197607:=rfl
open PySem PySem.W PyProof.Rows L2
set_option maxRecDepth 100000 in
set_option maxHeartbeats 0 in
theorem PySem.Challenge.cw_turnroots_k51_asked_at_the_desk_holds : PySem.Challenge.rw_turnroots_k51_asked_at_the_desk.Holds := by
  w_on; o_law; k_head; (case hw => w_witness2)
  k_fill
  refine My.eb7 (l := PySem.Challenge.rw_turnroots_k51_asked_at_the_desk) rfl rfl (fun w h Y => PySem.W.kIn_of Y) ?F
  case F =>
    intro w mg fa h KX G hmg
    refine' My.eb6 KX G hmg ?_ ?_ ?_ ?_ ?_ ?_ ?_ ?_ ?_ ?_ ?_ ?_ ?_ ?_ ?_ ?_ ?_ ?_ ?_ ?_ ?_ ?_ ?_ ?_ ?_ ?_ ?_ ?_ ?_ ?_ ?_ ?_ ?_ ?_ ?_ ?_ ?_ ?_ ?_ ?_ ?_ ?_ ?_ ?_ ?_ ?_ ?_ ?_ ?_ ?_ ?_ ?_ ?_ ?_ ?_ ?_ ?_ ?_ ?_ ?_ ?_ ?_ ?_ ?_ ?_ ?_ ?_ ?_ ?_ ?_ ?_ ?_ ?_ ?_ ?_ ?_ ?_ ?_ ?_ ?_ ?_ ?_ ?_ ?_ ?_
    all_goals first
      | k_is
      | (refine' dv0 ?a ?l ?c ?k; (case a => k_is); (case l => k_is); (case c => k_is); (case k => k_is))
      | (refine' ds1 ?a ?n ?l ?c ?k; (case a => k_is); (case n => k_is); (case l => k_is); (case c => k_is); (case k => k_is))
      | (refine' dd6 ?a ?b ?c ?d ?e; (case a => k_is); (case b => k_is); (case c => k_is); (case d => k_is); (case e => k_is))
      | (refine' cl7 ?a rfl ?l0 ?l1 ?l2 ?l3 ?l4 ?l5 ?l6 ?l7 ?l8 ?l9 ?l10 ?l11 ?l12 ?l13 ?l14 ?l15; (case a => k_is); all_goals first | (refine' dr7 ?z; (case z => k_is)) | (refine' dr8 ?z; (case z => k_is)) | (refine' dr9 ?z; (case z => k_is)) | (refine' ds0 ?z; (case z => k_is)) | (refine' dr6 ?z; (case z => k_is)))
      | ((repeat (refine' And.intro (ClF.mk ?n ?e ?g ?h ?c ?b ?o ?i ?t ?u ?v ?s) ?_; (case n => k_is); (case e => k_exc); (case g => k_is); (case h => k_is); (case c => k_is); (case b => k_is); (case o => k_is); (case i => k_is); (case t => k_is); (case u => k_is); (case v => k_is); (case s => k_is))); exact trivial)
      | ((repeat (refine' And.intro ?n ?_; (case n => k_is))); exact trivial)
      | ((repeat (refine' And.intro ?zp ?_; (case zp => ((repeat (refine' And.intro ?n ?_; (case n => k_is))); exact trivial)))); exact trivial)
      | skip
#print axioms PySem.Challenge.cw_turnroots_k51_asked_at_the_desk_holds
