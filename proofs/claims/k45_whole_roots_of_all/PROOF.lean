import PyProof.Rows.All
import Wide.All
import OpenK.AllK
import Wide.FinOn
import Lean
import PyProof.EqAt
import PyProof.EqKinds
import PyProof.TupleCall
import PyProof.NeKinds
import PyProof.EnumMake
import PyProof.Rows.SeqMore2
import PyProof.ZipIter
import PyProof.Rows.SortRev
import PyProof.Rows.SortWalk
import PyProof.Rows.CallKwBuiltin
import PyProof.DictIter
import PyProof.DictWalks
import PyProof.MeetsDict
import PyProof.Conv_int_bool
import PyProof.EqAt
import PyProof.CollectWalk
import PyProof.Rows.SortShell
import PyProof.Rows.Range3
import PyProof.CallFns
import PyProof.StrBlockH
import PySem.Challenge.RW_turnroots_k45_whole_roots_of_all
open List renaming length_map→ds1, getElem?_eq_getElem→ds2, getElem?_eq_some_iff→ds3, mem_cons_self→ds5, mem_cons_of_mem→ds6, getD_eq_getElem?_getD→ds7, length_append→ds8, getElem?_map→ds9, mem_map→dt0, map_append→dt1, mem_of_getElem?→dt2, mem_singleton→dt3, mem_append→dt4, getElem?_eq_none→dt5, mem_cons→dt7, size_toArray→dt8, flatten_cons→dt9, length_take→du1, append_assoc→du2, nodup_iff_pairwise_ne→du4, mem_flatten→du6, take_length→du7, append_nil→du8, map_cons→du9, mem_range→dv0, range→dv4, mem_append_right→dv5, pairwise_iff_getElem→dv6, mem_iff_getElem?→dv7, getElem?_append_left→dv8, length_cons→dv9, length_range→dw1, getElem_mem→dw2, nodup_cons→dw4, map_map→dw5, getElem?_append_right→dw7, replicate→dw8, getElem?_range→dw9, flatten_append→dx0, length_drop→dx1, take_append_drop→dx2, map_congr_left→dx6, mem_flatMap→dx7, mem_filter→dx8, ext_getElem?→dx9, nodup_append→dy3, mem_append_left→dy4, mem_of_mem_take→dy5, flatMap_cons→dy7, countP_map→dz0, countP_congr→dz3, sum_cons→dz4, flatten_singleton→dz6, getElem?_take_of_lt→dz8, nodup_nil→dz9, lookup_cons→ea0, perm_append_comm→ea1, drop_eq_getElem_cons→ea5, countP_eq_zero→ea7, nodup_range→eb2, take_of_length_le→eb4, pairwise_map→eb6, flatMap_append→eb8, take_zero→eb9, sum_append→ec0, sum_singleton→ec1, all_eq_true→ec2, mem_of_mem_drop→ec3, filter_cons_of_pos→ec5, filter_cons_of_neg→ec6, replicate_succ→ec8, countP_cons→ed0, countP_append→ed1, filter_append→ed2, drop_eq_nil_of_le→ed9, flatMap_nil→ee0, length_replicate→ee3, countP_singleton→ee4, pairwise_reverse→ee5, length_filter_le→ee6, map_nil→ee7, length_nil→ef0, range_succ→ef1, filter_nil→ef2, length→ef7, reverse_append→eg0, mem_reverse→eg1, pairwise_singleton→eg2, length_eq_zero_iff→eg3, getElem?_drop→eg4, map_singleton→eg6, find?_cons→eg8, countP_eq_length_filter→eh2, length_singleton→eh3, countP_le_length→eh4, reverse_perm→eh5, flatten→eh9, any_eq_true→ei2, length_reverse→ei5, length_set→ei6, getElem?_take→ej0, getElem?_cons_succ→ej2, filter_congr→ej8, foldl_append→ej9, getElem?_set_self→ek0, range_succ_eq_map→ek1, map_id→ek3, map_flatten→ek6, getElem?_reverse→ek7, not_mem_nil→ek8, getElem?_set_ne→ek9, eq_nil_of_length_eq_zero→el1, filterMap_cons→el7, countP_pos_iff→el9, filter_sublist→em1, take_succ→em2, append_of_mem→em3, pairwise_cons→em4, extract_eq_take_drop→em8, map_take→em9, getElem?_replicate→en3, getElem?_cons_zero→en5, of_mem_zip→en6, drop_zero→eo3, any_cons→eo5, map_drop→eo6
open Nat renaming le_refl→ds4, le_trans→dt6, gcd→du0, zero_le→du3, lt_of_le_of_lt→dw0, ne_of_lt→dw3, le_mul_of_pos_right→dw6, mul_assoc→dx3, lt_of_lt_of_le→dx4, mod_eq_of_lt→dy0, mul_comm→dy8, mul_div_cancel_left→dy9, le_of_lt→dz1, mul_le_mul_right→dz5, gcd_dvd_right→ea2, mul_pos→ea3, mod_lt→ea6, lt_irrefl→ea8, add_zero→ea9, eq_zero_or_pos→eb1, dvd_of_mod_eq_zero→eb5, eq_of_mul_eq_mul_left→eb7, add_comm→ec4, mul_le_mul→ec7, succ_mul→ed5, mul_one→ed6, zero_mul→ed7, sub_add_cancel→ee2, zero_add→ee8, mul_zero→ee9, lt_succ_of_lt→ef3, le_of_dvd→ef5, Coprime→ef8, gcd_dvd_left→ef9, le_mul_of_pos_left→eg9, mod_eq_zero_of_dvd→eh1, dvd_of_mul_dvd_mul_left→eh6, coprime_div_gcd_div_gcd→eh7, le_of_eq→eh8, pow_le_pow_right→ei0, add_mul_mod_self_left→ei3, mul_div_cancel'→ei4, le_succ→ei7, gcd_pos_of_pos_right→ei8, lt_or_eq_of_le→ei9, lt_or_ge→ej3, gcd_pos_of_pos_left→ej4, sub_self→ej5, pow_succ→ej6, succ_pos→ej7, add_assoc→ek5, mul_dvd_mul_left→el0, div_add_mod→el4, min_eq_left→el5, dvd_zero→el6, mul_le_mul_left→em0, pos_of_ne_zero→em5, mul_add→em6, div_eq_of_lt→en0, gcd_mul_left→en1, mul_succ→en4, mod_add_mod→en7, mul_add_div→en8, mul_add_mod→en9, gcd_eq_left→eo0, one_mul→eo1, one_pos→eo2
open Array renaming length_toList→du5, toList_append→dy1, getElem?_toList→dy2, toList→dz7, perm_iff_toList_perm→eb3, toList_reverse→ed3, getElem?_eq_getElem→ef4, toList_push→ef6, toList_map→en2, size_map→eo4
open Bool renaming false_ne_true→dv3, false_eq_true→ea4, and_eq_true→ed8, eq_iff_iff→eg7, or_eq_true→el3
open Int renaming toNat_natCast→dx5, natCast_mul→dy6, eq_ofNat_of_zero_le→dz2, natCast_emod→ec9, emod_nonneg→ed4, natAbs_natCast→ee1, emod_lt_of_pos→eg5, natCast_add→eh0, fdiv_eq_ediv_of_nonneg→ei1, emod_eq_zero_of_dvd→ej1, dvd_self_sub_emod→ek4, toNat→el2, toNat_of_nonneg→el8
open Option renaming isSome_map→em7
set_option Elab.async false
set_option linter.all false
set_option maxRecDepth 100000
set_option maxHeartbeats 8000000
section
local macro_rules|`(tactic|omega)=>`(tactic|lia)
local macro_rules|`(tactic|trivial)=>`(tactic|first|exact .inl rfl|exact .inr rfl|assumption)
local macro_rules|`(tactic|rfl')=>`(tactic|exact ⟨rfl,rfl,rfl,by decide+kernel,rfl,by decide+kernel,by decide+kernel⟩)
namespace L2
open PySem PySem.Spec PyProof.Rows
abbrev o3:=Sum Int Str
def aq1:o3->Value->Bool
 | .inl k,v=>Value.isInt k v
 | .inr x,v=>Value.isStrOf x v
def do5 (w:World):o3->Int
 | .inl k=>hashInt k
 | .inr x=>hashStr w x
theorem E6:∀{k:o3} {v:Value},aq1 k v=true->(∃i t,k=Sum.inl i/\v=Value.int i t)\/(∃x t,k=Sum.inr x/\v=Value.str x t)
 | .inl i,v,h=>by
   obtain ⟨t,e⟩:=Value.isInt_shape (k:=i) (v:=v) h;exact .inl ⟨i,t,rfl,e⟩
 | .inr x,v,h=>by
   obtain ⟨t,e⟩:=Value.isStrOf_shape (x:=x) (v:=v) h;exact .inr ⟨x,t,rfl,e⟩
theorem cg6 (i:Int)(t:Tok):aq1 (.inl i) (.int i t)=true:=by simp [aq1,Value.isInt]
theorem cg7 (x:Str)(t:Tok):aq1 (.inr x) (.str x t)=true:=by simp [aq1,Value.isStrOf]
theorem dd5 (a b:Int):decide ((Sum.inl a:o3)=Sum.inl b)=(a==b):=by
 by_cases e:a=b
 · subst e;simp
 · have h:¬(Sum.inl a:o3)=Sum.inl b:=fun q=>e (Sum.inl.inj q)
   rw[decide_eq_false h];exact (beq_eq_false_iff_ne.mpr e).symm
theorem dd6 (a b:Str):decide ((Sum.inr a:o3)=Sum.inr b)=decide (a=b):=by
 by_cases e:a=b
 · subst e;simp
 · have h:¬(Sum.inr a:o3)=Sum.inr b:=fun q=>e (Sum.inr.inj q)
   rw[decide_eq_false h,decide_eq_false e]
theorem dd7 (a:Int)(b:Str):decide ((Sum.inl a:o3)=Sum.inr b)=false:=decide_eq_false (fun q=>nomatch q)
theorem dd8 (a:Str)(b:Int):decide ((Sum.inr a:o3)=Sum.inl b)=false:=decide_eq_false (fun q=>nomatch q)
def y6 (prog:Program)(w:World):PySem.KeyKind prog w o3 where
 is:=aq1
 hash:=do5 w
 inj:=fun v a b ha hb=>by
   rcases E6 ha with ⟨i,t,rfl,rfl⟩|⟨x,t,rfl,rfl⟩
   · rcases E6 hb with ⟨j,u,rfl,e⟩|⟨y,u,rfl,e⟩
     · injection e with e1 _;rw[e1]
     · exact nomatch e
   · rcases E6 hb with ⟨j,u,rfl,e⟩|⟨y,u,rfl,e⟩
     · exact nomatch e
     · injection e with e1 _;rw[e1]
 byValue:=fun k v h=>by
   rcases E6 h with ⟨i,t,rfl,rfl⟩|⟨x,t,rfl,rfl⟩<;>rfl
 pyHash:=fun hv h=>by
   rcases E6 hv with ⟨i,t,rfl,rfl⟩|⟨x,t,rfl,rfl⟩
   · exact wpAny_pyHash_int h
   · exact wpAny_pyHash_str h
 eqBool:=fun hu hv h=>by
   rcases E6 hu with ⟨i,t,rfl,rfl⟩|⟨x,t,rfl,rfl⟩
   · rcases E6 hv with ⟨j,u,rfl,rfl⟩|⟨y,u,rfl,rfl⟩
     · rw[dd5] at h;exact wpAny_eqBool_int h
     · rw[dd7] at h;exact SeqAt.EqAt.int_str i t y u _ _ _ _ h
   · rcases E6 hv with ⟨j,u,rfl,rfl⟩|⟨y,u,rfl,rfl⟩
     · rw[dd8] at h;exact SeqAt.EqAt.str_int x t j u _ _ _ _ h
     · rw[dd6] at h;exact wpAny_eqBool_str h
 «strs»:=fun k x t v h=>by
   rcases E6 h with ⟨i,u,rfl,e⟩|⟨y,u,rfl,e⟩
   · exact nomatch e
   · injection e with e1 _
     subst e1
     cases v<;>rfl
theorem as7 (prog:Program)(w:World)(i:Int)(t:Tok):(y6 prog w).is (.inl i) (.int i t)=true:=cg6 i t
theorem as8 (prog:Program)(w:World)(x:Str)(t:Tok):(y6 prog w).is (.inr x) (.str x t)=true:=cg7 x t
end L2
namespace L2
open PySem PySem.Spec PyProof.Rows
inductive V where
 |non|bl (b:Bool)|int (i:Int)|str (x:Str)|byt (b:Array UInt8)|flt (b:UInt64)|ref (a:Addr)|ty (n:String)
 deriving DecidableEq
def p5:V->Value->Prop
 | .non,u=>u=Value.none
 | .bl b,u=>u=Value.bool b
 | .int i,u=>∃t,u=Value.int i t
 | .str x,u=>∃t,u=Value.str x t
 | .byt b,u=>∃t,u=Value.bytes b t
 | .flt b,u=>∃t,u=Value.float b t
 | .ref a,u=>u=Value.ref a
 | .ty n,u=>u=Value.type n
abbrev m8:List V->List Value->Prop:=Paired p5
theorem m8.length {xs:List V}{us:List Value}(r:m8 xs us):xs.length=us.length:=Paired.length r
theorem m8.get:∀{xs:List V} {us:List Value} {i:Nat} {x:V},m8 xs us->xs[i]? =some x->∃u,us[i]? =some u/\p5 x u
 |_,_,_,_,.nil,e=>by simp at e
 |_,_,0,_,.cons r _,e=>by simp at e;subst e;exact ⟨_,rfl,r⟩
 |_,_,i+1,x,.cons _ t,e=>by
  obtain ⟨u,h1,h2⟩:=m8.get (i:=i) (x:=x) t (by simpa using e);exact ⟨u,by simpa using h1,h2⟩
theorem m8.set {x:V}{u:Value}(r:p5 x u):∀{xs:List V} {us:List Value} (i:Nat),m8 xs us->m8 (xs.set i x) (us.set i u)
 |_,_,_,.nil=> .nil
 |_,_,0,.cons _ t=> .cons r t
 |_,_,i+1,.cons q t=> .cons q (m8.set r i t)
theorem m8.append:∀{xs ys:List V} {us ws:List Value},m8 xs us->m8 ys ws->m8 (xs++ys) (us++ws)
 |_,_,_,_,.nil,s=>s
 |_,_,_,_,.cons r t,s=> .cons r (m8.append t s)
theorem m8.take:∀{xs:List V} {us:List Value} (n:Nat),m8 xs us->m8 (xs.take n) (us.take n)
 |_,_,0,_=> .nil
 |_,_,_+1,.nil=> .nil
 |_,_,n+1,.cons r t=> .cons r (m8.take n t)
theorem m8.drop:∀{xs:List V} {us:List Value} (n:Nat),m8 xs us->m8 (xs.drop n) (us.drop n)
 |_,_,0,r=>r
 |_,_,_+1,.nil=> .nil
 |_,_,n+1,.cons _ t=>m8.drop n t
def ab8:Option V->Option Value->Prop
 |some v,some u=>p5 v u
 |none,none=>True
 |_,_=>False
def KV {κ:Type}:List (κ×V)->List (κ×Value)->Prop:=Paired fun (p:κ×V) (q:κ×Value)=>p.1=q.1/\p5 p.2 q.2
def kV:o3->V
 | .inl i=> .int i
 | .inr x=> .str x
inductive HO where
 |lst (xs:List V)
 |tup (xs:List V)
 |dK (kvs:List (o3×V))|dT (kvs:List (List o3×V))
 |set (S:Int->Bool) (n:Nat)
 |ins (C dx:Addr) (fs:List (Str×V))
 |own (x:Addr)
 |xd (fs:List (Str×V))
 |met (f x:Addr)
 |rng (lo hi:Int)
 |frz (o:Obj) (u:HO)
 |tbl (ps:Array Value)
 |ext (φ:Heap->Prop)
abbrev Hp:=Addr->Option HO
def c9 (H:Hp)(a:Addr)(o:HO):Hp:=fun b=>if b=a then some o else H b
theorem c8 {H:Hp}{a:Addr}{o:HO}:c9 H a o a=some o:=by unfold c9;rw[if_pos rfl]
theorem g8 {H:Hp}{a b:Addr}{o:HO}(h:b≠a):c9 H a o b=H b:=by unfold c9;rw[if_neg h]
theorem cv8 {H:Hp}{a b:Addr}{o u:HO}(h:H a=some o)(h':H b=some u)(d:o≠u):a≠b:=by
 intro e;subst e;rw[h] at h';exact d (Option.some.inj h')
theorem g6 {H:Hp}{a b:Addr}{o:HO}(h:H a=some o)(h':H b=none):a≠b:=by
 intro e;subst e;rw[h] at h';cases h'
section
variable (P:Program) (w:World)
def q9 (H:Hp)(h:Heap)(a:Addr):HO->Prop
 | .lst xs=>xs.length<=sizeLine/\∃(its:List Value) (n:Nat),m8 xs its/\h.get? a=some {cls:= .type "list",data:= .seq its.toArray n}
 | .tup xs=>xs.length<=sizeLine/\∃its:List Value,m8 xs its/\IsTup h a its.toArray
 | .dK kvs=>kvs.length<=sizeLine/\(a==sysModules)=false/\∃vs,KV kvs vs/\h.DictOf (y6 P w) a vs
 | .dT kvs=>kvs.length<=sizeLine/\(a==sysModules)=false/\∃xs:List (List o3×Addr×Value),
     Paired (fun (p:List o3×V) (q:List o3×Addr×Value)=>p.1=q.1/\H q.2.1=some (.tup (p.1.map kV))/\p5 p.2 q.2.2) kvs xs/\
     ∃o es ep,h.get? a=some o/\o.ExactDict/\o.data= .dict es ep/\es.toList=xs.map (entryOfKey (tupleKind (y6 P w)))/\(xs.map (·.1)).Nodup
 | .set S n=>h.SetOf (intKind P w) a S n
 | .ins C dx fs=>H dx=some (.own a)/\fs.length<=1000/\dx≠a/\h.get? a=some (PySem.W.instObj C dx)/\
     ∃mA,h.Ns1 dx mA/\(∀f,ab8 (fs.lookup f) (mA f))/\PySem.Within mA (fs.map (·.1))
 | .own _=>∃o,h.get? a=some o
 | .xd fs=>∃mA,h.Ns1 a mA/\∀f,ab8 (fs.lookup f) (mA f)
 | .rng lo hi=>∃t u v,h.get? a=some {cls:= .type "range",data:= .fields #[.int lo t,.int hi u,.int 1 v]}
 | .frz o u=>h.get? a=some o/\q9 H h a u
 | .tbl ps=>h.get? a=some {cls:= .none,data:= .fields ps}
 | .met f x=>h.get? a=some (PySem.W.methodObj (.ref f) (.ref x))
 | .ext φ=>φ h/\(∃o,h.get? a=some o)/\∀h1 h2:Heap,φ h1->(∀o,h1.get? a=some o->h2.get? a=some o)->φ h2
def E7 (H:Hp)(h:Heap):Prop:=∀a o,H a=some o->q9 P w H h a o
end
section
variable {P:Program} {w:World} {H H':Hp} {h h':Heap} {a:Addr} {o:HO}
theorem q9.lt (x:q9 P w H h a o):a < h.objs.size:=by
 cases o with
 |lst xs=>obtain ⟨_,_,_,_,e⟩:=x;exact Heap.lt_size e
 |tup xs=>obtain ⟨_,_,_,p⟩:=x;exact p.lt
 |dK kvs=>obtain ⟨_,_,_,_,o,_,_,e,_⟩:=x;exact Heap.lt_size e
 |dT kvs=>obtain ⟨_,_,_,_,o,_,_,e,_⟩:=x;exact Heap.lt_size e
 |set S n=>obtain ⟨o,_,_,_,e,_⟩:=x;exact Heap.lt_size e
 |ins C dx fs=>obtain ⟨_,_,_,e,_⟩:=x;exact Heap.lt_size e
 |own y=>obtain ⟨_,e⟩:=x;exact Heap.lt_size e
 |xd fs=>obtain ⟨_,⟨_,_,_,e,_⟩,_⟩:=x;exact Heap.lt_size e
 |rng lo hi=>obtain ⟨_,_,_,e⟩:=x;exact Heap.lt_size e
 |frz ob u=>obtain ⟨e,_⟩:=x;exact Heap.lt_size e
 |tbl ps=>exact Heap.lt_size (show h.get? a=some _ from x)
 |met f y=>exact Heap.lt_size (show h.get? a=some _ from x)
 |ext φ=>obtain ⟨_,⟨_,e⟩,_⟩:=x;exact Heap.lt_size e
theorem Paired.mapP {α β:Type}{F G:α->β->Prop}:∀{l₁:List α} {l₂:List β},Paired F l₁ l₂->(∀a b,F a b->G a b)->Paired G l₁ l₂
 |_,_,.nil,_=> .nil
 |_,_,.cons r t,f=> .cons (f _ _ r) (Paired.mapP t f)
theorem q9.stay (x:q9 P w H h a o)(k:∀b u,(b=a\/H b=some (.own a))->h.get? b=some u->h'.get? b=some u)
   (ho:∀b,H b=some (.own a)->H' b=some (.own a)) (ht:∀b xs,H b=some (.tup xs)->H' b=some (.tup xs)):q9 P w H' h' a o:=by
 induction o with
 |lst xs=>obtain ⟨z,its,n,r,e⟩:=x;exact ⟨z,its,n,r,k _ _ (.inl rfl) e⟩
 |tup xs=>obtain ⟨z,its,r,ob,e,c⟩:=x;exact ⟨z,its,r,ob,k _ _ (.inl rfl) e,c⟩
 |dK kvs=>obtain ⟨z,y,vs,r,ob,es,ep,e,c⟩:=x;exact ⟨z,y,vs,r,ob,es,ep,k _ _ (.inl rfl) e,c⟩
 |dT kvs=>
  obtain ⟨z,y,xs,r,ob,es,ep,e,c⟩:=x;exact ⟨z,y,xs,Paired.mapP r fun p q z=>⟨z.1,ht _ _ z.2.1,z.2.2⟩,ob,es,ep,k _ _ (.inl rfl) e,c⟩
 |set S n=>obtain ⟨ob,es,ep,t,e,c⟩:=x;exact ⟨ob,es,ep,t,k _ _ (.inl rfl) e,c⟩
 |ins C dx fs=>
  obtain ⟨d,z,ne,e,mA,⟨od,es,ep,e2,c⟩,r⟩:=x;exact ⟨ho _ d,z,ne,k _ _ (.inl rfl) e,mA,⟨od,es,ep,k _ _ (.inr d) e2,c⟩,r⟩
 |own y=>obtain ⟨ob,e⟩:=x;exact ⟨ob,k _ _ (.inl rfl) e⟩
 |xd fs=>obtain ⟨mA,⟨od,es,ep,e,c⟩,r⟩:=x;exact ⟨mA,⟨od,es,ep,k _ _ (.inl rfl) e,c⟩,r⟩
 |rng lo hi=>obtain ⟨t,u,v,e⟩:=x;exact ⟨t,u,v,k _ _ (.inl rfl) e⟩
 |frz ob u ih=>obtain ⟨e,q⟩:=x;exact ⟨k _ _ (.inl rfl) e,ih q⟩
 |tbl ps=>
  have e:h.get? a=some {cls:= .none,data:= .fields ps}:=x;show h'.get? a=some {cls:= .none,data:= .fields ps};exact k a _ (.inl rfl) e
 |met f y=>
  have e:h.get? a=some (PySem.W.methodObj (.ref f) (.ref y)):=x;show h'.get? a=some (PySem.W.methodObj (.ref f) (.ref y));exact k a _ (.inl rfl) e
 |ext φ=>obtain ⟨p,⟨o,e⟩,st⟩:=x;exact ⟨st _ _ p fun o q=>k _ _ (.inl rfl) q,⟨o,k _ _ (.inl rfl) e⟩,st⟩
theorem E7.lt (x:E7 P w H h)(e:H a=some o):a < h.objs.size:=(x a o e).lt
theorem E7.fresh (x:E7 P w H h)(e:h.objs.size<=a):H a=none:=by
 cases q:H a with
 |none=>rfl
 |some u=>exact absurd (dx4 (x.lt q) e) (ea8 _)
theorem E7.kept (x:E7 P w H h)(k:∀b u,h.get? b=some u->h'.get? b=some u):E7 P w H h':=fun a o e=>
 (x a o e).stay (fun b u _ q=>k b u q) (fun _ q=>q) fun _ _ q=>q
theorem E7.laid (x:E7 P w H h)(k:∀b u,h.get? b=some u->h'.get? b=some u)(hp:h.objs.size<=a)(new:q9 P w (c9 H a o) h' a o):E7 P w (c9 H a o) h':=fun b u e=>by
 have hn:=x.fresh hp
 by_cases hb:b=a
 · subst hb;rw[c8] at e;cases e;exact new
 · rw[g8 hb] at e
   exact (x b u e).stay (fun c v _ q=>k c v q) (fun c q=>by rw[g8 (g6 q hn)];exact q) fun c xs q=>by rw[g8 (g6 q hn)];exact q
end
def Rd (H:Hp)(a:Addr)(u:HO):Prop:=H a=some u\/∃o,H a=some (.frz o u)
theorem Rd.ok {P:Program}{w:World}{H:Hp}{h:Heap}{a:Addr}{u:HO}(r:Rd H a u)(x:E7 P w H h):q9 P w H h a u:=by
 rcases r with r|⟨o,r⟩
 · exact x a u r
 · obtain ⟨_,q⟩:=x a _ r;exact q
def Mut:Option HO->Prop
 |some (.lst _)=>True
 |some (.dK _)=>True
 |some (.dT _)=>True
 |some (.set _ _)=>True
 |some (.ins _ _ _)=>True
 |some (.ext _)=>True
 |_=>False
section
variable {P:Program} {w:World} {H:Hp} {h h':Heap} {x e:Addr} {o':HO}
theorem E7.write (ok:E7 P w H h)(mu:Mut (H x))(he:e=x\/H e=some (.own x))(k:∀b u,b≠e->h.get? b=some u->h'.get? b=some u)(heo:∃u,h'.get? e=some u)
   (new:q9 P w (c9 H x o') h' x o'):E7 P w (c9 H x o') h':=fun b u q=>by
 have nown:∀c y,H c=some (.own y)->c≠x:=fun c y r z=>by subst z;rw[r] at mu;exact mu
 have ntup:∀c xs,H c=some (.tup xs)->c≠x:=fun c xs r z=>by subst z;rw[r] at mu;exact mu
 by_cases hb:b=x
 · subst hb;rw[c8] at q;cases q;exact new
 · rw[g8 hb] at q
   by_cases hbe:b=e
   · have q':H b=some (.own x):=by
       rcases he with z|z
       · exact absurd (hbe.trans z) hb
       · rw[hbe];exact z
     rw[q] at q';cases q';obtain ⟨v,hv⟩:=heo;exact ⟨v,by rw[hbe];exact hv⟩
   · refine (ok b u q).stay (fun c v hc r=>k c v ?_ r) (fun c r=>by rw[g8 (nown c b r)];exact r) fun c xs r=>by rw[g8 (ntup c xs r)];exact r
     rcases hc with rfl|hc
     · exact hbe
     · rintro rfl
       rcases he with z|z
       · exact nown c b hc z
       · rw[hc] at z;cases z;exact hb rfl
end
structure Un (fs ex:List Addr)(H H':Hp)(h h':Heap):Prop where
 keep:∀b o,h.get? b=some o->H b=none->b∉fs->b∉ex->h'.get? b=some o
 slot:∀b o,h.get? b=some o->H b=none->b∈fs->b∉ex->∃sl,h'.get? b=some {o with slots:=sl}
 free:∀b o,h.get? b=some o->H b=none->b∉ex->H' b=none
 there:∀b o,h.get? b=some o->b∉ex->∃o',h'.get? b=some o'
 tups:∀b xs,H b=some (.tup xs)->H' b=some (.tup xs)
 frzs:∀b o u,H b=some (.frz o u)->H' b=some (.frz o u)
 tbls:∀b ps,H b=some (.tbl ps)->∃more,H' b=some (.tbl (ps++more))
section
variable {fs fs' ex ex':List Addr} {H H1 H2:Hp} {h h1 h2 h':Heap} {a x e:Addr} {o:HO}
theorem Un.any (u:Un fs ex H H1 h h1){b:Addr}{ob:Obj}(q:h.get? b=some ob)(n:H b=none)(hx:b∉ex):∃sl,h1.get? b=some {ob with slots:=sl}:=by
 by_cases hb:b∈fs
 · exact u.slot b ob q n hb hx
 · exact ⟨ob.slots,u.keep b ob q n hb hx⟩
theorem Un.kept (k:∀b u,h.get? b=some u->h'.get? b=some u):Un fs ex H H h h':=
 ⟨fun b ob q _ _ _=>k b ob q,fun b ob q _ _ _=>⟨ob.slots,k b ob q⟩,fun _ _ _ n _=>n,fun b ob q _=>⟨ob,k b ob q⟩,fun _ _ q=>q,fun _ _ _ q=>q,fun _ ps q=>⟨#[],by rw[q];simp⟩⟩
theorem Un.refl:Un fs ex H H h h:=Un.kept fun _ _ q=>q
theorem Un.laid (k:∀b u,h.get? b=some u->h'.get? b=some u)(hp:h.objs.size<=a)(hn:H a=none):Un fs ex H (c9 H a o) h h' where
 keep:=fun b u q _ _ _=>k b u q
 slot:=fun b u q _ _ _=>⟨u.slots,k b u q⟩
 free:=fun b u q n _=>by rw[g8 (dw3 (dx4 (Heap.lt_size q) hp))];exact n
 there:=fun b u q _=>⟨u,k b u q⟩
 tups:=fun b xs q=>by rw[g8 (g6 q hn)];exact q
 frzs:=fun b u xs q=>by rw[g8 (g6 q hn)];exact q
 tbls:=fun b ps q=>⟨#[],by rw[g8 (g6 q hn),q];simp⟩
theorem Un.write (mu:Mut (H x))(he:e=x\/H e=some (.own x))(k:∀b u,b≠e->h.get? b=some u->h'.get? b=some u)(heo:∃u,h'.get? e=some u):Un fs ex H (c9 H x o) h h':=by
 have hx:∀b,H b=none->b≠x:=fun b n z=>by subst z;rw[n] at mu;exact mu
 have hb:∀b,H b=none->b≠e:=fun b n z=>by
   subst z
   rcases he with r|r
   · exact hx b n r
   · rw[n] at r;cases r
 have hm:∀b u,H b=some u->¬Mut (some u)->b≠x:=fun b u q nm z=>by subst z;rw[q] at mu;exact nm mu
 refine ⟨fun b u q n _ _=>k b u (hb b n) q,fun b u q n _ _=>⟨u.slots,k b u (hb b n) q⟩,fun b u q n _=>by rw[g8 (hx b n)];exact n,fun b u q _=> ?_,
   fun b xs q=>by rw[g8 (hm b _ q fun z=>z)];exact q,fun b u xs q=>by rw[g8 (hm b _ q fun z=>z)];exact q,fun b ps q=>⟨#[],by rw[g8 (hm b _ q fun z=>z),q];simp⟩⟩
 by_cases hbe:b=e
 · subst hbe;exact heo
 · exact ⟨u,k b u hbe q⟩
end
def trk (h:Heap)(H:Hp):List Addr:=(dv4 h.objs.size).filter fun a=>(H a).isSome
def aj6 (h:Heap)(H:Hp):Heap:=PySem.W.hideAll h (trk h H)
theorem cg9 (h:Heap)(H:Hp):(aj6 h H).objs.size=h.objs.size:=PySem.W.hideAll_size _ _
theorem co9 {h:Heap}{H:Hp}{b:Addr}{o:Obj}(e:h.get? b=some o)(n:H b=none):(aj6 h H).get? b=some o:=
 PySem.W.hideAll_get _ e fun hm=>by
   have q:(H b).isSome=true:=(dx8.mp hm).2;rw[n] at q;simp at q
theorem cy2 {h:Heap}{H:Hp}{b:Addr}{o:Obj}(e:(aj6 h H).get? b=some o):h.get? b=some o/\H b=none:=by
 have e':h.get? b=some o:=PySem.W.of_hideAll (trk h H) e;refine ⟨e',?_⟩
 cases q:H b with
 |none=>rfl
 |some x=>
  have hm:b∈trk h H:=dx8.mpr ⟨dv0.mpr (Heap.lt_size e'),by simp [q]⟩;have z:(aj6 h H).get? b=none:=PySem.W.hideAll_none (trk h H) hm;rw[z] at e;cases e
end L2
namespace L2
open PySem PySem.Spec PyProof.Rows
structure Mod (K:PySem.W.Frag)(mg:Str->Option Value)(base:Heap):Prop where
 kin:K.In base
 glob:base.Ns mainGlobals mg
 blt:∃mb,base.Ns builtinsNs mb/\∀x:Str,x≠"__name__"->mb x=bootBuiltins x
 nolimit:base.NoLimit
structure Cx where
 prog:Program
 w:World
 K:PySem.W.Frag
 mg:Str->Option Value
 base:Heap
 A:Around
 N:List Str
 s₀:Shared
 H₀:Hp
 env:Env
 outer:List Env
 stack:List Env
 ex:List Addr
 fn:Str->Bool
 calm:Bool
 pn:List (Addr×Obj)
 xe:Value->Shared->Prop
def frs (l:List Env):List Addr:=l.filterMap (·.frame)
abbrev Cx.fs (X:Cx):List Addr:=frs X.outer
def Vis (sc:Scope)(x:Str):Prop:=sc.names.lookup x=some .local\/sc.names.lookup x=some .cell\/sc.names.lookup x=some .free
def Loc (sc:Scope)(x:Str):Prop:=sc.names.lookup x=some .local\/sc.names.lookup x=some .cell
def do6 (env:Env)(h:Heap)(m:Str->Option Value)(x:Str)(u:Value):Prop:=
 (env.kindOf x=some .local/\m x=some u)\/((env.kindOf x=some .cell\/env.kindOf x=some .free)/\∃c,env.cells.lookup x=some c/\h.IsCell c (some u))
structure Cx.Ok (X:Cx):Prop where
 mod:Mod X.K X.mg X.base
 kind:X.env.scope.kind= .function
 glob:X.env.globals=mainGlobals
 blt:X.env.builtins=builtinsNs
 above:X.s₀.heap.objs.size<=X.env.locals
 inj:∀x y c,X.env.cells.lookup x=some c->X.env.cells.lookup y=some c->x=y
 has:∀x,(X.env.kindOf x=some .cell\/X.env.kindOf x=some .free)->∃c,X.env.cells.lookup x=some c
 cab:∀x c,X.fn x=true->X.env.cells.lookup x=some c->X.s₀.heap.objs.size<=c
 hd:X.calm=true->X.A.handled=none
 frames:X.A.frames=some X.stack
 stk:X.stack=X.outer\/(X.stack=X.env::X.outer/\X.env.frame=some X.env.locals)
 exf:∀b∈X.ex,b≠X.env.locals/\∀x c,X.env.cells.lookup x=some c->c≠b
 bs:∀b o,X.base.get? b=some o->X.s₀.heap.get? b=some o/\X.H₀ b=none
 bsz:X.base.objs.size<=X.s₀.heap.objs.size
 noex:∀b o,X.base.get? b=some o->b∉X.ex
 exfs:∀b∈X.ex,b∉X.fs
 funs:X.s₀.heap.FunFrames X.base X.outer
 frf:∀b∈X.fs,X.H₀ b=none
structure g9 (X:Cx)(pins:List (Addr×Obj))(σ:List (Option V))(H:Hp)(s:Shared):Prop where
 ok:X.Ok
 os:s.os=X.s₀.os
 bare:AllBare s.gens
 base:Un X.fs X.ex X.H₀ H X.s₀.heap s.heap
 loc:∃m,s.heap.Ns X.env.locals m/\∀(i:Nat) (x:Str) (v:V),X.N[i]? =some x->σ[i]? =some (some v)->Vis X.env.scope x->∃u,p5 v u/\do6 X.env s.heap m x u
 cell:∀x c,X.env.cells.lookup x=some c->∃v,s.heap.IsCell c v
 free:H X.env.locals=none
 freeC:∀x c,X.env.cells.lookup x=some c->H c=none
 pin:∀p∈X.pn++pins,s.heap.get? p.1=some p.2/\H p.1=none/\p.1≠X.env.locals/\p.1∉X.fs/\∀v,p.2.data≠.cell v
 hok:E7 X.prog X.w H s.heap
 len:σ.length=X.N.length
section
variable {X:Cx} {pins:List (Addr×Obj)} {σ:List (Option V)} {H H':Hp} {s:Shared} {h':Heap}
theorem Cx.Ok.nofr (ok:X.Ok){b:Addr}{o:Obj}(e:X.base.get? b=some o):b∉X.fs:=fun hb=>by
 have:=(ok.funs.mem hb).1;rw[e] at this;cases this
theorem g9.bs (I:g9 X pins σ H s):∀b o,X.base.get? b=some o->s.heap.get? b=some o/\H b=none:=fun b o e=>
 ⟨I.base.keep b o (I.ok.bs b o e).1 (I.ok.bs b o e).2 (I.ok.nofr e) (I.ok.noex b o e),I.base.free b o (I.ok.bs b o e).1 (I.ok.bs b o e).2 (I.ok.noex b o e)⟩
theorem g9.bk (I:g9 X pins σ H s):∀b o,X.base.get? b=some o->s.heap.get? b=some o:=fun b o e=>(I.bs b o e).1
theorem g9.mod (I:g9 X pins σ H s):Mod X.K X.mg X.base:=I.ok.mod
theorem g9.kIn (I:g9 X pins σ H s):X.K.In s.heap:=I.ok.mod.kin.keeps I.bk
theorem g9.lt (I:g9 X pins σ H s):X.env.locals < s.heap.objs.size:=let ⟨_,hn,_⟩:=I.loc;hn.lt
theorem g9.sz (I:g9 X pins σ H s):X.s₀.heap.objs.size<=s.heap.objs.size:=dt6 I.ok.above (dz1 I.lt)
theorem g9.nofs (I:g9 X pins σ H s){a:Addr}(h:s.heap.objs.size<=a):a∉X.fs:=fun hb=>by
 obtain ⟨_,o,ho,_⟩:=I.ok.funs.mem hb;exact absurd (dx4 (Heap.lt_size ho) (dt6 I.sz h)) (ea8 _)
theorem g9.cne (I:g9 X pins σ H s):∀x c,X.env.cells.lookup x=some c->c≠X.env.locals:=fun x c e z=>by
 obtain ⟨v,o,ho,hd⟩:=I.cell x c e;obtain ⟨m,⟨o',es,ep,ho',hd',_⟩,_⟩:=I.loc;rw[z,ho'] at ho;cases ho;rw[hd'] at hd;cases hd
theorem g9.funs (I:g9 X pins σ H s):s.heap.FunFrames X.base X.outer:=by
 have all:∀(l:List Env),(∀b∈frs l,b∈X.fs)->X.s₀.heap.FunFrames X.base l->s.heap.FunFrames X.base l:=by
   intro l
   induction l with
   |nil=>intro _ _;trivial
   |cons env r ih=>
    intro hs hl;obtain ⟨hk,⟨L,o,hf,hn,ho,hd⟩,hr⟩:=hl;have hL:L∈X.fs:=hs L (by unfold frs;rw[el7,hf];exact ds5)
    obtain ⟨sl,e⟩:=I.base.slot L o ho (I.ok.frf L hL) hL fun z=>I.ok.exfs L z hL
    exact ⟨hk,⟨L,_,hf,hn,e,hd⟩,ih (fun b hb=>hs b (by unfold frs;rw[el7,hf];exact ds6 _ hb)) hr⟩
 exact all X.outer (fun _ hb=>hb) I.ok.funs
theorem g9.stack (I:g9 X pins σ H s):s.heap.FunFrames X.base X.stack:=by
 rcases I.ok.stk with e|⟨e,hf⟩
 · rw[e];exact I.funs
 · rw[e];obtain ⟨m,hn,_⟩:=I.loc;refine .cons (by rw[I.ok.kind];decide) hf hn ?_ I.funs;exact Heap.get?_none_of_le (dt6 I.ok.bsz I.ok.above)
theorem g9.stkSub (I:g9 X pins σ H s):∀b∈frs X.stack,b∈X.env.locals::X.fs:=fun b hb=>by
 rcases I.ok.stk with e|⟨e,hf⟩
 · rw[e] at hb;exact ds6 _ hb
 · rw[e] at hb;unfold frs at hb;rw[el7,hf] at hb;exact hb
theorem g9.stkFree (I:g9 X pins σ H s):∀b∈frs X.stack,H b=none:=fun b hb=>by
 rcases dt7.mp (I.stkSub b hb) with e|hb
 · rw[e];exact I.free
 · obtain ⟨_,o,ho,_⟩:=I.ok.funs.mem hb
   exact I.base.free b o ho (I.ok.frf b hb) fun z=>I.ok.exfs b z hb
theorem g9.step {g':Array GenState}{t':Nat}{d':Drawn}{ch:List Addr}(I:g9 X pins σ H s)
   (hch:∀b∈ch,(b∈X.ex\/X.s₀.heap.objs.size<=b)/\b≠X.env.locals/\(∀x c,X.env.cells.lookup x=some c->c≠b)/\∀p∈X.pn++pins,p.1≠b)
   (keep:∀b o,b≠X.env.locals->b∉X.fs->b∉ch->s.heap.get? b=some o->H b=none->h'.get? b=some o)
   (slot:∀b o,b≠X.env.locals->b∈X.fs->b∉ch->s.heap.get? b=some o->H b=none->∃sl,h'.get? b=some {o with slots:=sl}) (free:∀b o,b∉ch->s.heap.get? b=some o->H b=none->H' b=none)
   (there:∀b o,b∉ch->s.heap.get? b=some o->∃o',h'.get? b=some o')
   (tups:∀b xs,H b=some (.tup xs)->H' b=some (.tup xs)) (frzs:∀b o u,H b=some (.frz o u)->H' b=some (.frz o u)) (tbls:∀b ps,H b=some (.tbl ps)->∃more,H' b=some (.tbl (ps++more)))
   (ns:∀m,s.heap.Ns X.env.locals m->h'.Ns X.env.locals m) (hok:E7 X.prog X.w H' h') (hg:AllBare g'):
   g9 X pins σ H' {s with heap:=h',gens:=g',drawn:=d',toks:=t'}:=by
 have neL:∀b o,X.s₀.heap.get? b=some o->b≠X.env.locals:=fun b o e=>dw3 (dx4 (Heap.lt_size e) I.ok.above)
 have neC:∀b o,X.s₀.heap.get? b=some o->b∉X.ex->b∉ch:=fun b o e hx hb=>by
   rcases (hch b hb).1 with z|z
   · exact hx z
   · exact absurd (dx4 (Heap.lt_size e) z) (ea8 _)
 have cellK:∀x c,X.env.cells.lookup x=some c->∀v,s.heap.IsCell c v->h'.IsCell c v:=fun x c e v ⟨o,ho,hd⟩=>by
   have nch:c∉ch:=fun z=>(hch c z).2.2.1 x c e rfl
   by_cases hc:c∈X.fs
   · obtain ⟨sl,q⟩:=slot c o (I.cne x c e) hc nch ho (I.freeC x c e);exact ⟨_,q,hd⟩
   · exact ⟨o,keep c o (I.cne x c e) hc nch ho (I.freeC x c e),hd⟩
 refine ⟨I.ok,I.os,hg,⟨fun b o e n hb hx=> ?_,fun b o e n hb hx=> ?_,fun b o e n hx=> ?_,fun b o e hx=> ?_,fun b xs e=>tups b xs (I.base.tups b xs e),fun b o xs e=>frzs b o xs (I.base.frzs b o xs e),fun b ps e=> ?_⟩,?_,fun x c e=> ?_,?_,fun x c e=> ?_,fun p hp=> ?_,hok,I.len⟩
 · exact keep b o (neL b o e) hb (neC b o e hx) (I.base.keep b o e n hb hx) (I.base.free b o e n hx)
 · obtain ⟨sl,e1⟩:=I.base.slot b o e n hb hx;obtain ⟨sl',e2⟩:=slot b _ (neL b o e) hb (neC b o e hx) e1 (I.base.free b o e n hx);exact ⟨sl',e2⟩
 · obtain ⟨o',e1⟩:=I.base.there b o e hx;exact free b o' (neC b o e hx) e1 (I.base.free b o e n hx)
 · obtain ⟨o',e1⟩:=I.base.there b o e hx;exact there b o' (neC b o e hx) e1
 · obtain ⟨m1,e1⟩:=I.base.tbls b ps e;obtain ⟨m2,e2⟩:=tbls b _ e1;exact ⟨m1++m2,by rw[e2,Array.append_assoc]⟩
 · obtain ⟨m,hn,hl⟩:=I.loc;refine ⟨m,ns m hn,fun i x v e1 e2 e3=> ?_⟩;obtain ⟨u,r,l⟩:=hl i x v e1 e2 e3;refine ⟨u,r,?_⟩
   rcases l with l|⟨k,c,e,z⟩
   · exact .inl l
   · exact .inr ⟨k,c,e,cellK x c e _ z⟩
 · obtain ⟨v,z⟩:=I.cell x c e;exact ⟨v,cellK x c e v z⟩
 · obtain ⟨m,⟨o,_,_,ho,_⟩,_⟩:=I.loc;exact free _ o (fun z=>(hch _ z).2.1 rfl) ho I.free
 · obtain ⟨v,o,ho,hd⟩:=I.cell x c e;exact free c o (fun z=>(hch c z).2.2.1 x c e rfl) ho (I.freeC x c e)
 · obtain ⟨e,n,ne,nf,d⟩:=I.pin p hp
   have nch:p.1∉ch:=fun z=>(hch p.1 z).2.2.2 p hp rfl
   exact ⟨keep p.1 p.2 ne nf nch e n,free p.1 p.2 nch e n,ne,nf,d⟩
theorem g9.un {t':Nat}(I:g9 X pins σ H s)(u:Un X.fs [] H H' s.heap h')(hok:E7 X.prog X.w H' h'):g9 X pins σ H' {s with heap:=h',toks:=t'}:=by
 obtain ⟨m,⟨o,es,ep,ho,r⟩,_⟩:=id I.loc;obtain ⟨sl,hL⟩:=u.any ho I.free (by simp)
 exact I.step (g':=s.gens) (d':=s.drawn) (ch:=[]) (fun _ z=>nomatch z) (fun b o _ hb _ e n=>u.keep b o e n hb (by simp)) (fun b o _ hb _ e n=>u.slot b o e n hb (by simp)) (fun b o _ e n=>u.free b o e n (by simp)) (fun b o _ e=>u.there b o e (by simp)) u.tups u.frzs u.tbls (fun m' hm=>by
   obtain ⟨o',es',ep',ho',r'⟩:=hm;rw[ho] at ho';cases ho'
   exact ⟨_,es',ep',hL,r'⟩) hok I.bare
theorem g9.call {g':Array GenState}{t':Nat}{d':Drawn}{ch:List Addr}(I:g9 X pins σ H s)(u:Un (frs X.stack) ch H H' s.heap h')(hok:E7 X.prog X.w H' h')(hg:AllBare g')
   (hch:∀b∈ch,(b∈X.ex\/X.s₀.heap.objs.size<=b)/\b≠X.env.locals/\(∀x c,X.env.cells.lookup x=some c->c≠b)/\∀p∈X.pn++pins,p.1≠b):
   g9 X pins σ H' {s with heap:=h',gens:=g',drawn:=d',toks:=t'}:=by
 obtain ⟨m,⟨o,es,ep,ho,r⟩,_⟩:=id I.loc
 obtain ⟨sl,hL⟩:=u.any ho I.free fun z=>(hch _ z).2.1 rfl
 exact I.step (ch:=ch) hch (fun b o hL hb hc e n=>u.keep b o e n (fun z=>(dt7.mp (I.stkSub b z)).elim hL hb) hc) (fun b o _ _ hc e n=>u.any e n hc) (fun b o hc e n=>u.free b o e n hc) (fun b o hc e=>u.there b o e hc) u.tups u.frzs u.tbls (fun m' hm=>by
   obtain ⟨o',es',ep',ho',r'⟩:=hm;rw[ho] at ho';cases ho'
   exact ⟨_,es',ep',hL,r'⟩) hok hg
theorem g9.turned {t':Nat}{it:Addr}(I:g9 X pins σ H s)(k:∀b o,b≠it->s.heap.get? b=some o->h'.get? b=some o)(hn:H it=none)(hL:it≠X.env.locals)
   (h1:it∈X.ex\/X.s₀.heap.objs.size<=it) (h2:∀x c,X.env.cells.lookup x=some c->c≠it) (h3:∀p∈X.pn++pins,p.1≠it):g9 X pins σ H {s with heap:=h',toks:=t'}:=by
 have nit:∀b u,H b=some u->b≠it:=fun b u e z=>by rw[z,hn] at e;cases e
 refine I.step (g':=s.gens) (d':=s.drawn) (ch:=[it]) (fun b hb=> ?_) (fun b o _ _ hc e _=>k b o (fun z=>hc (by simp [z])) e) (fun b o _ _ hc e _=>⟨o.slots,k b o (fun z=>hc (by simp [z])) e⟩) (fun _ _ _ _ n=>n)
   (fun b o hc e=>⟨o,k b o (fun z=>hc (by simp [z])) e⟩) (fun _ _ e=>e) (fun _ _ _ e=>e) (fun b ps e=>⟨#[],by rw[e];simp⟩) (fun m hm=> ?_) (fun b u e=> ?_) I.bare
 · have e:b=it:=by simpa using hb
   subst e;exact ⟨h1,hL,h2,h3⟩
 · obtain ⟨o,es,ep,ho,r⟩:=hm;exact ⟨o,es,ep,k _ o (Ne.symm hL) ho,r⟩
 · refine (I.hok b u e).stay (fun c v hc q=>k c v ?_ q) (fun _ q=>q) fun _ _ q=>q
   rcases hc with z|z
   · rw[z];exact nit b u e
   · exact nit c _ z
theorem g9.tok (I:g9 X pins σ H s)(t:Nat):g9 X pins σ H {s with toks:=t}:=I.un (h':=s.heap) (t':=t) Un.refl I.hok
theorem g9.kept {t':Nat}(I:g9 X pins σ H s)(k:∀b u,s.heap.get? b=some u->h'.get? b=some u):g9 X pins σ H {s with heap:=h',toks:=t'}:=I.un (Un.kept k) (I.hok.kept k)
theorem g9.laid {a:Addr}{o:HO}{t':Nat}(I:g9 X pins σ H s)(k:∀b u,s.heap.get? b=some u->h'.get? b=some u)(hp:s.heap.objs.size<=a)(new:q9 X.prog X.w (c9 H a o) h' a o):
 g9 X pins σ (c9 H a o) {s with heap:=h',toks:=t'}:=I.un (Un.laid k hp (I.hok.fresh hp)) (I.hok.laid k hp new)
theorem g9.write {x e:Addr}{o:HO}{t':Nat}(I:g9 X pins σ H s)(mu:Mut (H x))(he:e=x\/H e=some (.own x))(k:∀b u,b≠e->s.heap.get? b=some u->h'.get? b=some u)(heo:∃u,h'.get? e=some u)
 (new:q9 X.prog X.w (c9 H x o) h' x o):g9 X pins σ (c9 H x o) {s with heap:=h',toks:=t'}:=I.un (Un.write mu he k heo) (I.hok.write mu he k heo new)
theorem g9.pins_of {pins':List (Addr×Obj)}(I:g9 X pins σ H s)(h:∀p∈pins',s.heap.get? p.1=some p.2/\H p.1=none/\p.1≠X.env.locals/\p.1∉X.fs/\∀v,p.2.data≠.cell v):g9 X pins' σ H s:=
 ⟨I.ok,I.os,I.bare,I.base,I.loc,I.cell,I.free,I.freeC,fun p hp=>(dt4.mp hp).elim (fun z=>I.pin p (dy4 _ z)) (h p),I.hok,I.len⟩
theorem bm4 {N:List Str}(hN:N.Nodup){i j:Nat}{x:Str}(a:N[i]? =some x)(b:N[j]? =some x):i=j:=by
 obtain ⟨h1,e1⟩:=ds3.mp a;obtain ⟨h2,e2⟩:=ds3.mp b;exact (List.getElem_inj hN).mp (e1.trans e2.symm)
theorem bh0 {M:Model}{A:Around}{E:Value->Shared->Prop}{i:Nat}{x:Str}{v:V}{u:Value}{Q:Unit->Shared->Prop}(I:g9 X pins σ H s)(hN:X.N.Nodup)(hi:X.N[i]? =some x)(hx:Loc X.env.scope x)(r:p5 v u)
   (h:∀s',g9 X pins (σ.set i (some v)) H s'->(∃a,Heap.SameBut a s.heap s'.heap/\(a=X.env.locals\/X.env.cells.lookup x=some a))->Q () s') (hf:X.fn x=true\/X.env.scope.names.lookup x=some .local:=by first|exact .inl rfl|exact .inr rfl|assumption):wpAny M A (storeName X.env x u) Q E s:=by
 obtain ⟨m,hn,hl⟩:=id I.loc
 have hcls:(X.env.scope.kind== .class||(X.env.scope.kind== .module&&X.env.locals !=X.env.globals))=false:=by rw[I.ok.kind];rfl
 have hiσ:i < σ.length:=by rw[I.len];exact (ds3.mp hi).1
 have cne:=I.cne
 have tracked:∀{a:Addr} {h':Heap},(∃o,s.heap.get? a=some o/\H a=none)->Heap.SameBut a s.heap h'->E7 X.prog X.w H h':=fun {a h'} ha hs b ob e=>by
   obtain ⟨_,_,hfree⟩:=ha
   refine (I.hok b ob e).stay (fun c w' hc q=>(hs.2 c ?_).trans q) (fun _ q=>q) fun _ _ q=>q
   rintro rfl
   rcases hc with rfl|hc
   · rw[hfree] at e;cases e
   · rw[hfree] at hc;cases hc
 rcases hx with hk|hk
 · refine wpAny_storeName_local hk hn (fun h' hn' hs=> ?_) hcls;obtain ⟨oL,_,_,hoL,_⟩:=id hn;refine h _ ⟨I.ok,I.os,I.bare,⟨fun b o e n hb hx=> ?_,fun b o e n hb hx=> ?_,I.base.free,fun b o e hx=> ?_,I.base.tups,I.base.frzs,I.base.tbls⟩,⟨_,hn',fun j y v' e1 e2 e3=> ?_⟩,fun y c e=> ?_,I.free,I.freeC,fun p hp=> ?_,tracked ⟨oL,hoL,I.free⟩ hs,by simpa using I.len⟩ ⟨_,hs,.inl rfl⟩
   · exact (hs.2 b (dw3 (dx4 (Heap.lt_size e) I.ok.above))).trans (I.base.keep b o e n hb hx)
   · obtain ⟨sl,e1⟩:=I.base.slot b o e n hb hx;exact ⟨sl,(hs.2 b (dw3 (dx4 (Heap.lt_size e) I.ok.above))).trans e1⟩
   · obtain ⟨o',e1⟩:=I.base.there b o e hx;exact ⟨o',(hs.2 b (dw3 (dx4 (Heap.lt_size e) I.ok.above))).trans e1⟩
   · by_cases hj:j=i
     · subst hj;rw[hi] at e1;cases e1;rw[ek0 hiσ] at e2;cases e2;exact ⟨u,r,.inl ⟨hk,by simp⟩⟩
     · rw[ek9 (Ne.symm hj)] at e2;obtain ⟨u',r',q⟩:=hl j y v' e1 e2 e3;refine ⟨u',r',?_⟩
       rcases q with ⟨k,e⟩|⟨k,c,e,z⟩
       · refine .inl ⟨k,?_⟩
         have:y≠x:=fun e=>hj (bm4 hN e1 (e▸hi))
         simp [this,e]
       · exact .inr ⟨k,c,e,z.sameBut hs (cne y c e)⟩
   · obtain ⟨w',z⟩:=I.cell y c e;exact ⟨w',z.sameBut hs (cne y c e)⟩
   · obtain ⟨e,n,ne,nf,d⟩:=I.pin p hp;exact ⟨(hs.2 p.1 ne).trans e,n,ne,nf,d⟩
 · have hfn:X.fn x=true:=by
     rcases hf with z|z
     · exact z
     · rw[z] at hk;cases hk
   obtain ⟨c,hc⟩:=I.ok.has x (.inl hk);obtain ⟨w',z⟩:=I.cell x c hc;refine wpAny_storeName_cell I.ok.kind hk hc z (fun h' hc' hs=> ?_);obtain ⟨oc,hoc,hocd⟩:=id z;refine h {s with heap:=h'} ⟨I.ok,I.os,I.bare,⟨fun b o e n hb hx=> ?_,fun b o e n hb hx=> ?_,I.base.free,fun b o e hx=> ?_,I.base.tups,I.base.frzs,I.base.tbls⟩,⟨m,hn.sameBut hs (Ne.symm (cne x c hc)),fun j y v' e1 e2 e3=> ?_⟩,fun y c' e=> ?_,I.free,I.freeC,fun p hp=> ?_,tracked ⟨oc,hoc,I.freeC x c hc⟩ hs,by simpa using I.len⟩ ⟨c,hs,.inr hc⟩
   · exact (hs.2 b (dw3 (dx4 (Heap.lt_size e) (I.ok.cab x c hfn hc)))).trans (I.base.keep b o e n hb hx)
   · obtain ⟨sl,e1⟩:=I.base.slot b o e n hb hx;exact ⟨sl,(hs.2 b (dw3 (dx4 (Heap.lt_size e) (I.ok.cab x c hfn hc)))).trans e1⟩
   · obtain ⟨o',e1⟩:=I.base.there b o e hx;exact ⟨o',(hs.2 b (dw3 (dx4 (Heap.lt_size e) (I.ok.cab x c hfn hc)))).trans e1⟩
   · by_cases hj:j=i
     · subst hj;rw[hi] at e1;cases e1;rw[ek0 hiσ] at e2;cases e2;exact ⟨u,r,.inr ⟨.inl hk,c,hc,hc'⟩⟩
     · rw[ek9 (Ne.symm hj)] at e2;obtain ⟨u',r',q⟩:=hl j y v' e1 e2 e3;refine ⟨u',r',?_⟩
       rcases q with q|⟨k,c',e,z'⟩
       · exact .inl q
       · refine .inr ⟨k,c',e,z'.sameBut hs ?_⟩;rintro rfl;exact hj (bm4 hN e1 (I.ok.inj _ _ _ e hc▸hi))
   · by_cases hcc:c'=c
     · subst hcc;exact ⟨_,hc'⟩
     · obtain ⟨w2,z2⟩:=I.cell y c' e;exact ⟨w2,z2.sameBut hs hcc⟩
   · obtain ⟨e,n,ne,nf,d⟩:=I.pin p hp;refine ⟨(hs.2 p.1 ?_).trans e,n,ne,nf,d⟩;intro q;rw[q,hoc] at e;have q':oc=p.2:=Option.some.inj e;exact d w' (by rw[<-q'];exact hocd)
theorem bm5 {M:Model}{A:Around}{E:Value->Shared->Prop}{i:Nat}{x:Str}{v:V}{u:Value}{Q:Unit->Shared->Prop}(I:g9 X pins σ H s)(hN:X.N.Nodup)(hi:X.N[i]? =some x)(hx:Loc X.env.scope x)(r:p5 v u)
   (h:∀s',g9 X pins (σ.set i (some v)) H s'->Q () s') (hf:X.fn x=true\/X.env.scope.names.lookup x=some .local:=by first|exact .inl rfl|exact .inr rfl|assumption):wpAny M A (storeName X.env x u) Q E s:=
 bh0 I hN hi hx r (fun s' I' _=>h s' I') hf
theorem g9.call' {s':Shared}{ch:List Addr}(I:g9 X pins σ H s)(ho:s'.os=s.os)(u:Un (frs X.stack) ch H H' s.heap s'.heap)(hok:E7 X.prog X.w H' s'.heap)(hg:AllBare s'.gens)
   (hch:∀b∈ch,(b∈X.ex\/X.s₀.heap.objs.size<=b)/\b≠X.env.locals/\(∀x c,X.env.cells.lookup x=some c->c≠b)/\∀p∈X.pn++pins,p.1≠b):g9 X pins σ H' s':=by
 obtain ⟨h',g',d',t',o'⟩:=s';have e:o'=s.os:=ho;subst e;exact I.call (g':=g') (t':=t') (d':=d') u hok hg hch
end
abbrev XK:=Value->Option Addr->Hp->Prop
abbrev St:=List (Option V)
abbrev VK:=V->Hp->Prop
abbrev TE:=St->Hp->VK->Prop
abbrev TT:=St->Hp->(Bool->Hp->Prop)->Prop
abbrev TA:=St->Hp->(List V->Hp->Prop)->Prop
structure ab9 where
 nx:St->Hp->Prop
 rt:VK
 bk:St->Hp->Prop:=fun _ _=>False
 ct:St->Hp->Prop:=fun _ _=>False
abbrev TS:=ab9->St->Hp->Prop
def EP (X:Cx)(pins:List (Addr×Obj))(σ:St)(Q:VK)(u:Value)(s':Shared):Prop:=∃v H',g9 X pins σ H' s'/\p5 v u/\Q v H'
def TP (X:Cx)(pins:List (Addr×Obj))(σ:St)(Q:Bool->Hp->Prop)(b:Bool)(s':Shared):Prop:=∃H',g9 X pins σ H' s'/\Q b H'
def AP (X:Cx)(pins:List (Addr×Obj))(σ:St)(Q:List V->Hp->Prop)(us:List Value)(s':Shared):Prop:=∃vs H',g9 X pins σ H' s'/\m8 vs us/\Q vs H'
def SP (X:Cx)(pins:List (Addr×Obj))(D:ab9)(f:Flow)(s':Shared):Prop:=
 match f with
 | .next=>∃σ' H',g9 X pins σ' H' s'/\D.nx σ' H'
 | .brk=>∃σ' H',g9 X pins σ' H' s'/\D.bk σ' H'
 | .cont=>∃σ' H',g9 X pins σ' H' s'/\D.ct σ' H'
 | .ret u=>∃v σ' H',g9 X pins σ' H' s'/\p5 v u/\D.rt v H'
def PE (X:Cx)(e:Expr)(t:TE):Prop:=
 ∀(pins:List (Addr×Obj)) (s:Shared) (σ:St) (H:Hp) (Q:VK),g9 X pins σ H s->t σ H Q->wpAny (model X.prog X.w) X.A (eval e X.env) (EP X pins σ Q) X.xe s
def PT (X:Cx)(e:Expr)(t:TT):Prop:=
 ∀(pins:List (Addr×Obj)) (s:Shared) (σ:St) (H:Hp) (Q:Bool->Hp->Prop),g9 X pins σ H s->t σ H Q->wpAny (model X.prog X.w) X.A (isTrue e X.env (eval e X.env)) (TP X pins σ Q) X.xe s
def PW (X:Cx)(e:Expr)(t:TT):Prop:=
 ∀(whole:Sem Value) (pins:List (Addr×Obj)) (s:Shared) (σ:St) (H:Hp) (Q:Bool->Hp->Prop),g9 X pins σ H s->t σ H Q->wpAny (model X.prog X.w) X.A (isTrue e X.env whole) (TP X pins σ Q) X.xe s
theorem PW.pt {X:Cx}{e:Expr}{t:TT}(h:PW X e t):PT X e t:=h _
def PA (X:Cx)(es:List Expr)(t:TA):Prop:=
 ∀(pos:Pos) (pins:List (Addr×Obj)) (s:Shared) (σ:St) (H:Hp) (Q:List V->Hp->Prop),g9 X pins σ H s->t σ H Q->wpAny (model X.prog X.w) X.A (spliced (backTo pos (starEach es X.env))) (AP X pins σ Q) X.xe s
def PS (X:Cx)(st:Stmt)(t:TS):Prop:=
 ∀(pins:List (Addr×Obj)) (s:Shared) (σ:St) (H:Hp) (D:ab9),g9 X pins σ H s->t D σ H->wpAny (model X.prog X.w) X.A (exec st X.env) (SP X pins D) X.xe s
def X5 (X:Cx)(st:List Stmt)(t:TS):Prop:=
 ∀(pins:List (Addr×Obj)) (s:Shared) (σ:St) (H:Hp) (D:ab9),g9 X pins σ H s->t D σ H->wpAny (model X.prog X.w) X.A (execs st X.env) (SP X pins D) X.xe s
theorem p6 {α:Type}{t:Sem α}{Q Q':α->Shared->Prop}{M:Model}{A:Around}{E:Value->Shared->Prop}{s:Shared}(h:wpAny M A t Q E s)(hQ:∀a s,Q a s->Q' a s):wpAny M A t Q' E s:=wpAny_mono h hQ fun _ _ x=>x
end L2
namespace L2
open PySem PySem.Spec PyProof.Rows
section
variable {X:Cx}
def dd9 (i:Nat):TE:=fun σ H Q=>∃v,σ[i]? =some (some v)/\Q v H
def tC (v:V):TE:=fun _ H Q=>Q v H
theorem de0 {i:Nat}{x:Str}{pos:Pos}(hN:X.N[i]? =some x)(hv:Vis X.env.scope x)(hd:(x==("__debug__":Str))=false:=by decide)(hcd:(x==("__classdict__":Str))=false:=by decide):PE X (.Name x pos) (dd9 i):=by
 intro pins s σ H Q I h;obtain ⟨v,e,h⟩:=h;obtain ⟨m,hn,hl⟩:=I.loc;obtain ⟨u,r,l⟩:=hl i x v hN e hv;have fin:EP X pins σ Q u s:=⟨v,H,I,r,h⟩
 rcases l with ⟨hk,hm⟩|⟨hk,c,hc,hcell⟩
 · exact wpAny_Name (wpAny_loadName_local I.ok.kind hk hn hm fin) hd
 · rcases hk with hk|hk
   · exact wpAny_Name (wpAny_loadName_cell I.ok.kind hk hc hcell fin) hd
   · exact wpAny_Name (wpAny_loadName_free I.ok.kind hk hc hcell fin hcd) hd
theorem g7 {i j pos}:PE X (.Constant (.int i) j pos) (tC (.int i)):=fun _ _ _ H _ I h=>wpAny_Constant_int ⟨.int i,H,I.tok _,⟨_,rfl⟩,h⟩
theorem J9 {b j pos}:PE X (.Constant (.bool b) j pos) (tC (.bl b)):=fun _ _ _ H _ I h=>Constant_bool ⟨.bl b,H,I,rfl,h⟩
theorem bm6 {x j pos}:PE X (.Constant (.str x) j pos) (tC (.str x)):=fun _ _ _ H _ I h=>Calls.Constant_str ⟨.str x,H,I.tok _,⟨_,rfl⟩,h⟩
def Gl (X:Cx)(x:Str):Prop:=X.env.kindOf x=some .globalImplicit
theorem bx8 {E:Value->Shared->Prop}{pins:List (Addr×Obj)}{s:Shared}{σ:St}{H:Hp}{x:Str}{u:Value}{pos:Pos}{Q:Value->Shared->Prop}(I:g9 X pins σ H s)(hg:Gl X x)(hm:X.mg x=some u)(h:Q u s)
   (hd:(x==("__debug__":Str))=false:=by decide):wpAny (model X.prog X.w) X.A (eval (.Name x pos) X.env) Q E s:=
 Calls.Name_function_global I.ok.kind hg (Calls.loadGlobal_global (by rw[I.ok.glob];exact I.mod.glob.keeps I.bk) hm h) hd
theorem X6 {E:Value->Shared->Prop}{pins:List (Addr×Obj)}{s:Shared}{σ:St}{H:Hp}{x:Str}{u:Value}{pos:Pos}{Q:Value->Shared->Prop}(I:g9 X pins σ H s)(hg:Gl X x)(hm:X.mg x=none)(hv:bootBuiltins x=some u)(h:Q u s)
   (hn:x≠"__name__":=by decide) (hd:(x==("__debug__":Str))=false:=by decide):wpAny (model X.prog X.w) X.A (eval (.Name x pos) X.env) Q E s:=by
 obtain ⟨mb,h1,h2⟩:=I.mod.blt;exact Calls.Name_function_global I.ok.kind hg (Calls.loadGlobal_builtin (by rw[I.ok.glob];exact I.mod.glob.keeps I.bk) hm (by rw[I.ok.blt];exact h1.keeps I.bk) ((h2 x hn).trans hv) h) hd
theorem aq2 {x:Str}{v:V}{u:Value}{pos:Pos}(hg:Gl X x)(hm:X.mg x=some u)(r:p5 v u)(hd:(x==("__debug__":Str))=false:=by decide):PE X (.Name x pos) (tC v):=
 fun _ _ _ H _ I h=>bx8 I hg hm ⟨v,H,I,r,h⟩ hd
theorem bd0 {x:Str}{v:V}{u:Value}{pos:Pos}(hg:Gl X x)(hm:X.mg x=none)(hv:bootBuiltins x=some u)(r:p5 v u)(hn:x≠"__name__":=by decide)(hd:(x==("__debug__":Str))=false:=by decide):PE X (.Name x pos) (tC v):=
 fun _ _ _ H _ I h=>X6 I hg hm hv ⟨v,H,I,r,h⟩ hn hd
variable {a b:Expr} {ta tb:TE} {pos:Pos}
def PC (X:Cx)(op:CmpOp)(a b:Expr)(t:TE):Prop:=
 ∀(pins:List (Addr×Obj)) (s:Shared) (σ:St) (H:Hp) (Q:VK),g9 X pins σ H s->t σ H Q->
  wpAny (model X.prog X.w) X.A (eval a X.env) (fun v s₁=>wpAny (model X.prog X.w) X.A (eval b X.env) (fun u s₂=>wpAny (model X.prog X.w) X.A (compareOp op v u) (EP X pins σ Q) X.xe s₂) X.xe s₁) X.xe s
def tB (t:TE):TT:=fun σ H Q=>t σ H fun x H1=>∃c,x= .bl c/\Q c H1
theorem bm7 {op:CmpOp}{t:TE}(h:PC X op a b t)(h1:behindInMarks op b=false:=by first|exact nobehind _ (by decide) (by decide)|rfl):PT X (.Compare a [op] [b] pos) (tB t):=by
 intro pins s σ H Q I hw;refine wpAny_isTrue_Compare1 (p6 (h pins s σ H _ I hw) fun v s1 h1=>p6 h1 fun u s2 h2=>p6 h2 fun c s3 ⟨x,H1,I1,r1,q1⟩=> ?_) h1;obtain ⟨d,rfl,q⟩:=q1;cases r1;exact wpAny_truthy_bool ⟨H1,I1,q⟩
theorem K3 {e:Expr}{t:TE}(h:PE X e t)(he:∀whole,isTrue e X.env whole=(do let v <-whole;standAt e.pos;holding [v] (truthy v)):=by intro _;rfl):PT X e (tB t):=by
 intro pins s σ H Q I hw;refine isTrue_plain (p6 (h pins s σ H _ I hw) fun v s1 ⟨x,H1,I1,r1,q1⟩=> ?_) (he _);obtain ⟨d,rfl,q⟩:=q1;cases r1;exact wpAny_truthy_bool ⟨H1,I1,q⟩
variable {tA tB':TT} {rest:List Expr}
def tOr (t u:TT):TT:=fun σ H Q=>t σ H fun c H1=>if c=true then Q true H1 else u σ H1 Q
def do7 (t:TT):TT:=fun σ H Q=>t σ H fun c H1=>Q (!c) H1
theorem ac0 (ha:PT X a tA):PW X (.BoolOp .Or [a] pos) tA:=by
 intro wh pins s σ H Q I h;refine isTrue_or (p6 (ha pins s σ H Q I h) fun c s1 e=> ?_)
 cases c with
 |false=>exact isTrue_or_nil e
 |true=>exact e
theorem aa1 (ha:PT X a tA)(hb:PW X (.BoolOp .Or (b::rest) pos) tB'):PW X (.BoolOp .Or (a::b::rest) pos) (tOr tA tB'):=by
 intro wh pins s σ H Q I h;refine isTrue_or (p6 (ha pins s σ H _ I h) fun c s1 ⟨H1,I1,q1⟩=> ?_)
 cases c with
 |true=>exact ⟨H1,I1,q1⟩
 |false=>exact hb wh pins s1 σ H1 Q I1 q1
theorem K4 (ha:PT X a tA):PT X (.UnaryOp .Not a pos) (do7 tA):=by
 intro pins s σ H Q I h;exact isTrue_not (ha pins s σ H (fun c H1=>Q (!c) H1) I h)
def dj8 (ta tb:TE):TE:=fun σ H Q=>ta σ H fun x H1=>∃c,x= .bl c/\if c=true then tb σ H1 Q else Q (.bl false) H1
def dj9 (ta:TE):TE:=fun σ H Q=>ta σ H fun x H1=>∃c,x= .bl c/\Q (.bl (!c)) H1
theorem ch3 {op}{t:TE}(h:PE X a t):PE X (.BoolOp op [a] pos) t:=fun pins s σ H Q I hw=>BoolOp_one (h pins s σ H Q I hw)
theorem ch4 (ha:PE X a ta)(hb:PE X (.BoolOp .And (b::rest) pos) tb):PE X (.BoolOp .And (a::b::rest) pos) (dj8 ta tb):=by
 intro pins s σ H Q I h;refine BoolOp_and (p6 (ha pins s σ H _ I h) fun v s1 ⟨x,H1,I1,r1,q1⟩=> ?_);obtain ⟨c,rfl,q1⟩:=q1;cases r1;refine wpAny_truthy_bool ?_
 cases c with
 |true=>exact hb pins s1 σ H1 Q I1 q1
 |false=>exact ⟨.bl false,H1,I1,rfl,q1⟩
theorem de1 (ha:PE X a ta):PE X (.UnaryOp .Not a pos) (dj9 ta):=by
 intro pins s σ H Q I h;refine UnaryOp_ (p6 (ha pins s σ H _ I h) fun v s1 ⟨x,H1,I1,r1,q1⟩=> ?_);obtain ⟨c,rfl,q1⟩:=q1;cases r1;exact not_of (wpAny_truthy_bool ⟨.bl (!c),H1,I1,rfl,q1⟩)
end
end L2
namespace L2
open PySem PySem.Spec PyProof.Rows
def i5 (K:PySem.W.Frag)(H:Hp)(a:Addr)(xs:List V):Prop:=
 Rd H a (.lst xs)\/
   ∃(o:Obj) (its:Array Value) (n:Nat),K.lookup a=some o/\o.cls= .type "list"/\o.dict=none/\o.data= .seq its n/\its.size<=sizeLine/\m8 xs its.toList
def T2 (K:PySem.W.Frag)(H:Hp)(a:Addr)(xs:List V):Prop:=
 Rd H a (.tup xs)\/
   ∃(o:Obj) (its:Array Value) (n:Nat),K.lookup a=some o/\o.cls= .type "tuple"/\o.data= .seq its n/\its.size<=sizeLine/\m8 xs its.toList
def do8:Value->Option V
 | .none=>some .non
 | .bool b=>some (.bl b)
 | .int i _=>some (.int i)
 | .str x _=>some (.str x)
 | .bytes b _=>some (.byt b)
 | .float b _=>some (.flt b)
 | .ref a=>some (.ref a)
 | .type n=>some (.ty n)
 |_=>none
theorem p5.abs {x:V}{u:Value}(r:p5 x u):do8 u=some x:=by
 cases x with
 |non=>cases r;rfl
 |bl _=>cases r;rfl
 |int _=>obtain ⟨t,rfl⟩:=r;rfl
 |str _=>obtain ⟨t,rfl⟩:=r;rfl
 |byt _=>obtain ⟨t,rfl⟩:=r;rfl
 |flt _=>obtain ⟨t,rfl⟩:=r;rfl
 |ref _=>cases r;rfl
 |ty _=>cases r;rfl
theorem p5.inj {x y:V}{u:Value}(r:p5 x u)(q:p5 y u):x=y:=Option.some.inj (r.abs.symm.trans q.abs)
theorem m8.inj:∀{xs ys:List V} {us:List Value},m8 xs us->m8 ys us->xs=ys
 |_,_,_,.nil,.nil=>rfl
 |_,_,_,.cons r t,.cons r' t'=>by rw[r.inj r',m8.inj t t']
section
variable {X:Cx} {pins:List (Addr×Obj)} {σ:St} {H:Hp} {s:Shared} {a:Addr} {xs ys:List V}
theorem i5.of {K:PySem.W.Frag}(h:H a=some (.lst xs)):i5 K H a xs:= .inl (.inl h)
theorem T2.of {K:PySem.W.Frag}(h:H a=some (.tup xs)):T2 K H a xs:= .inl (.inl h)
theorem g9.list (I:g9 X pins σ H s)(h:i5 X.K H a xs):∃its:List Value,m8 xs its/\PlainL s.heap a its.toArray/\xs.length<=sizeLine:=by
 rcases h with h|⟨o,its,n,hk,hc,hd,hs,hz,r⟩
 · obtain ⟨z,its,n,r,e⟩:=h.ok I.hok;exact ⟨its,r,⟨_,n,e,rfl,rfl,rfl⟩,z⟩
 · refine ⟨its.toList,r,⟨o,n,I.kIn a o hk,hc,hd,by simpa using hs⟩,?_⟩;have e:=r.length;simp only[du5] at e;omega
theorem g9.tuple (I:g9 X pins σ H s)(h:T2 X.K H a xs):∃its:List Value,m8 xs its/\IsTup s.heap a its.toArray/\xs.length<=sizeLine:=by
 rcases h with h|⟨o,its,n,hk,hc,hs,hz,r⟩
 · obtain ⟨z,its,r,p⟩:=h.ok I.hok;exact ⟨its,r,p,z⟩
 · refine ⟨its.toList,r,⟨o,I.kIn a o hk,hc,n,by simpa using hs⟩,?_⟩;have e:=r.length;simp only[du5] at e;omega
theorem g9.list_inj (I:g9 X pins σ H s)(h:i5 X.K H a xs)(h':i5 X.K H a ys):xs=ys:=by
 obtain ⟨its,r,⟨o,n,e,_,_,d⟩,_⟩:=I.list h;obtain ⟨its',r',⟨o',n',e',_,_,d'⟩,_⟩:=I.list h';rw[e] at e';cases e';rw[d] at d'
 injection d' with d1 _
 have:its=its':=by simpa using congrArg dz7 d1
 subst this;exact r.inj r'
end
abbrev Cx.wish (X:Cx)(E:Value->Shared->Prop):Cx:={X with xe:=E}
abbrev Cx.nox (X:Cx):Cx:=X.wish fun _ _=>False
theorem Cx.Ok.wish {X:Cx}(ok:X.Ok)(E:Value->Shared->Prop):(X.wish E).Ok:=
 ⟨ok.mod,ok.kind,ok.glob,ok.blt,ok.above,ok.inj,ok.has,ok.cab,ok.hd,ok.frames,ok.stk,ok.exf,ok.bs,ok.bsz,ok.noex,ok.exfs,ok.funs,ok.frf⟩
theorem Cx.Ok.unwish {X:Cx}{E:Value->Shared->Prop}(ok:(X.wish E).Ok):X.Ok:=
 ⟨ok.mod,ok.kind,ok.glob,ok.blt,ok.above,ok.inj,ok.has,ok.cab,ok.hd,ok.frames,ok.stk,ok.exf,ok.bs,ok.bsz,ok.noex,ok.exfs,ok.funs,ok.frf⟩
section
variable {X:Cx} {pins:List (Addr×Obj)} {σ:St} {H:Hp} {s:Shared} {E:Value->Shared->Prop}
theorem g9.wish (I:g9 X pins σ H s)(E:Value->Shared->Prop):g9 (X.wish E) pins σ H s:=⟨I.ok.wish E,I.os,I.bare,I.base,I.loc,I.cell,I.free,I.freeC,I.pin,I.hok,I.len⟩
theorem g9.unwish (I:g9 (X.wish E) pins σ H s):g9 X pins σ H s:=⟨I.ok.unwish,I.os,I.bare,I.base,I.loc,I.cell,I.free,I.freeC,I.pin,I.hok,I.len⟩
theorem SP.unwish {D:ab9}{f:Flow}{s':Shared}(h:SP (X.wish E) pins D f s'):SP X pins D f s':=by
 cases f with
 |next=>obtain ⟨σ',H',I,q⟩:=h;exact ⟨σ',H',I.unwish,q⟩
 |brk=>obtain ⟨σ',H',I,q⟩:=h;exact ⟨σ',H',I.unwish,q⟩
 |cont=>obtain ⟨σ',H',I,q⟩:=h;exact ⟨σ',H',I.unwish,q⟩
 |ret u=>obtain ⟨v,σ',H',I,r,q⟩:=h;exact ⟨v,σ',H',I.unwish,r,q⟩
theorem X5.nox {st:List Stmt}{t:TS}(h:X5 X.nox st t):X5 X st t:=fun pins s σ H D I hw=>
 wpAny_mono (h pins s σ H D (I.wish _) hw) (fun _ _ q=>q.unwish) fun _ _ z=>False.elim z
end
section
variable {X:Cx} {st:Stmt} {rest:List Stmt} {t u:TS} {e:Expr} {te:TE} {pos:Pos}
def dk0:TS:=fun D σ H=>D.nx σ H
def cp0 (t u:TS):TS:=fun D σ H=>t {D with nx:=u D} σ H
theorem q0:X5 X [] dk0:=fun _ _ σ H _ I h=>wpAny_execs_nil ⟨σ,H,I,h⟩
theorem c7 (h1:PS X st t)(h2:X5 X rest u):X5 X (st::rest) (cp0 t u):=by
 intro pins s σ H D I h;refine wpAny_execs_cons (p6 (h1 pins s σ H {D with nx:=u D} I h) fun f s1 q=> ?_)
 cases f with
 |next=>
  obtain ⟨σ',H',I',q⟩:=q;exact h2 pins s1 σ' H' D I' q
 |ret v=>exact q
 |brk=>exact q
 |cont=>exact q
theorem e7 (h1:PS X st t):X5 X [st] t:=by
 intro pins s σ H D I h;refine wpAny_execs_cons (p6 (h1 pins s σ H D I h) fun f s1 q=> ?_)
 cases f with
 |next=>exact wpAny_execs_nil q
 |ret v=>exact q
 |brk=>exact q
 |cont=>exact q
theorem g9.quiet {pins:List (Addr×Obj)}{σ:St}{H:Hp}{s:Shared}(I:g9 X pins σ H s):interactive X.env=false:=by simp [interactive,I.ok.kind]
def dk1 (te:TE):TS:=fun D σ H=>te σ H fun _ H1=>D.nx σ H1
theorem p7 (he:PE X e te)(hs:swapsWith e none pos.line X.env=pure false:=by rfl):PS X (.Expr e pos) (dk1 te):=by
 intro pins s σ H D I h;exact wpAny_Expr_any (p6 (he pins s σ H _ I h) fun v s1 ⟨x,H1,I1,r1,q1⟩=>⟨σ,H1,I1,q1⟩) I.quiet hs
def do9 (te:TE):TS:=fun D σ H=>te σ H D.rt
theorem l5 (he:PE X e te):PS X (.Return (some e) pos) (do9 te):=by
 intro pins s σ H D I h;exact wpAny_Return_some (p6 (he pins s σ H _ I h) fun v s1 ⟨x,H1,I1,r1,q1⟩=>⟨x,σ,H1,I1,r1,q1⟩)
def dp0 (c:TT)(t u:TS):TS:=fun D σ H=>c σ H fun b H1=>if b=true then t D σ H1 else u D σ H1
theorem y9 {c:Expr}{a b:List Stmt}{tc:TT}(hc:PT X c tc)(ha:X5 X a t)(hb:X5 X b u):PS X (.If c a b pos) (dp0 tc t u):=by
 intro pins s σ H D I h;refine wpAny_If (p6 (hc pins s σ H _ I h) fun d s1 ⟨H1,I1,q1⟩=> ?_)
 cases d with
 |true=>exact ha pins s1 σ H1 D I1 q1
 |false=>exact hb pins s1 σ H1 D I1 q1
def de2:TS:=fun _ _ _=>False
theorem O1:PS X st de2:=fun _ _ _ _ _ _ h=>h.elim
end
abbrev TG:=V->St->Hp->(St->Hp->Prop)->Prop
abbrev TGs:=List V->St->Hp->(St->Hp->Prop)->Prop
def PG (X:Cx)(target:Expr)(t:TG):Prop:=
 ∀(pins:List (Addr×Obj)) (s:Shared) (σ:St) (H:Hp) (v:V) (u:Value) (Q:St->Hp->Prop),g9 X pins σ H s->p5 v u->t v σ H Q->
  wpAny (model X.prog X.w) X.A (assign target X.env u) (fun _ s'=>∃σ' H',g9 X pins σ' H' s'/\Q σ' H') X.xe s
def PGs (X:Cx)(ts:List Expr)(t:TGs):Prop:=
 ∀(pins:List (Addr×Obj)) (s:Shared) (σ:St) (H:Hp) (vs:List V) (us:List Value) (Q:St->Hp->Prop),g9 X pins σ H s->m8 vs us->t vs σ H Q->
  wpAny (model X.prog X.w) X.A (assignInOrder ((assignEach ts X.env).map (·.2)) us) (fun _ s'=>∃σ' H',g9 X pins σ' H' s'/\Q σ' H') X.xe s
abbrev cp1:=V->V->V->Hp->(Hp->Prop)->Prop
def de3 (X:Cx)(t:cp1):Prop:=
 ∀(pins:List (Addr×Obj)) (s:Shared) (σ:St) (H:Hp) (o i v:V) (ov iv u:Value) (Q:Hp->Prop),g9 X pins σ H s->p5 o ov->p5 i iv->p5 v u->t o i v H Q->
  wpAny (model X.prog X.w) X.A (setItem ov iv u) (fun _ s'=>∃H',g9 X pins σ H' s'/\Q H') X.xe s
section
variable {X:Cx} {pos:Pos}
def cc6 (i:Nat):TG:=fun v σ H Q=>Q (σ.set i (some v)) H
theorem i9 {i:Nat}{x:Str}(hN:X.N.Nodup)(hi:X.N[i]? =some x)(hx:Loc X.env.scope x)(hf:X.fn x=true\/X.env.scope.names.lookup x=some .local:=by first|exact .inl rfl|exact .inr rfl|assumption):PG X (.Name x pos) (cc6 i):=by
 intro pins s σ H v u Q I r h;exact wpAny_assign_Name (bm5 I hN hi hx r (fun s' I'=>⟨_,H,I',h⟩) hf)
def dp1:TGs:=fun vs σ H Q=>vs=[]/\Q σ H
def dk2 (t:TG)(u:TGs):TGs:=fun vs σ H Q=>∃v r,vs=v::r/\t v σ H fun σ' H'=>u r σ' H' Q
theorem Q1:PGs X [] dp1:=by
 intro pins s σ H vs us Q I r h;obtain ⟨e,h⟩:=h;subst e;cases r;exact assignInOrder_nil ⟨σ,H,I,h⟩
theorem A3 {e:Expr}{es:List Expr}{t:TG}{u:TGs}(h1:PG X e t)(h2:PGs X es u)
   (hs:(assignEach (e::es) X.env).map (·.2)=assign e X.env::(assignEach es X.env).map (·.2):=by rfl):PGs X (e::es) (dk2 t u):=by
 intro pins s σ H vs us Q I r h;obtain ⟨v,vr,e1,h⟩:=h;subst e1
 cases r with
 |cons r rr=>
  rw[hs];refine assignInOrder_cons (p6 (h1 pins s σ H _ _ _ I r h) fun _ s1 ⟨σ1,H1,I1,q1⟩=> ?_);exact h2 pins s1 σ1 H1 _ _ Q I1 rr q1
def dp2 (K:PySem.W.Frag)(n:Nat)(t:TGs):TG:=fun v σ H Q=>∃a xs,v= .ref a/\T2 K H a xs/\xs.length=n/\t xs σ H Q
theorem T9 {es:List Expr}{k:Nat}{t:TGs}{n:Nat}(hc:X.calm=true)(h:PGs X es t)
   (hn:(assignEach es X.env).length=n:=by rfl) (hst:(assignEach es X.env).findIdx? (·.1)=none:=by rfl):PG X (.Tuple es k pos) (dp2 X.K n t):=by
 intro pins s σ H v u Q I r hw;obtain ⟨a,xs,e1,hq,hl,hw⟩:=hw;subst e1;cases r;obtain ⟨its,rv,ht,hz⟩:=I.tuple hq
 refine assign_Tuple_tuple (I.ok.hd hc) ht (by simp [hn,<-hl,rv.length]) hst fun h' hx=> ?_
 have I1:g9 X pins σ H {s with heap:=h'}:=I.kept (t':=s.toks) fun b o e=>hx b o (dw3 (Heap.lt_size e)) e
 exact h pins _ σ H xs _ Q I1 (by simpa using rv) hw
def dp3 (to ti:TE)(t:cp1):TG:=fun v σ H Q=>to σ H fun o H1=>ti σ H1 fun i H2=>t o i v H2 fun H3=>Q σ H3
theorem an1 {o i:Expr}{to ti:TE}{t:cp1}(ho:PE X o to)(hi:PE X i ti)(hs:de3 X t)
   (ha:∀v,assign (.Subscript o i pos) X.env v=(do
     let ov <-holding [v] (eval o X.env)
     let iv <-holding [v,ov] (eval i X.env)
     standAt pos
     holding [v,ov,iv] (setItem ov iv v)
     release [v,ov,iv] []):=by intro _;rfl):PG X (.Subscript o i pos) (dp3 to ti t):=by
 intro pins s σ H v u Q I r h;rw[ha];refine wpAny_bind (wpAny_holding (p6 (ho pins s σ H _ I h) fun ov s1 ⟨x,H1,I1,r1,q1⟩=> ?_));refine wpAny_bind (wpAny_holding (p6 (hi pins s1 σ H1 _ I1 q1) fun iv s2 ⟨y,H2,I2,r2,q2⟩=> ?_));refine wpAny_bind (wpAny_standAt (wpAny_bind (wpAny_holding (p6 (hs pins s2 σ H2 x y v ov iv u _ I2 r1 r2 r q2) fun _ s3 ⟨H3,I3,q3⟩=> ?_))));exact wpAny_release ⟨σ,H3,I3,q3⟩
def cp2 (te:TE)(g:TG):TS:=fun D σ H=>te σ H fun x H1=>g x σ H1 D.nx
theorem an2 {tg e:Expr}{te:TE}{g:TG}(he:PE X e te)(hg:PG X tg g)(hs:swapsWithSole [tg] e pos.line X.env=pure false:=by rfl)(hw:swappedStores [tg] e X.env=pure none:=by rfl)
   (h1:(assignEach [tg] X.env).map (·.2)=[assign tg X.env]:=by rfl):PS X (.Assign [tg] e pos) (cp2 te g):=by
 intro pins s σ H D I h;refine wpAny_Assign_stores (p6 (he pins s σ H _ I h) fun v s1 ⟨x,H1,I1,r1,q1⟩=> ?_) hs hw;rw[h1]
 exact p6 (hg pins s1 σ H1 x v _ I1 r1 q1) fun _ s2 q=>q
theorem i6 {i:Nat}{x:Str}{e:Expr}{te:TE}{pos':Pos}(hN:X.N.Nodup)(hi:X.N[i]? =some x)(hx:Loc X.env.scope x)(he:PE X e te)(hs:swapsWith e (some (.Name x pos')) pos.line X.env=pure false:=by rfl)(hf:X.fn x=true\/X.env.scope.names.lookup x=some .local:=by first|exact .inl rfl|exact .inr rfl|assumption):
   PS X (.Assign [.Name x pos'] e pos) (cp2 te (cc6 i)):=by
 intro pins s σ H D I h;refine wpAny_Assign_Name (p6 (he pins s σ H _ I h) fun v s1 ⟨y,H1,I1,r1,q1⟩=> ?_) hs;exact bm5 I1 hN hi hx r1 (fun s2 I2=>⟨_,H1,I2,q1⟩) hf
end
section
variable {X:Cx} {pos:Pos}
def ch5 (c:TT)(tb:TS):TS:=fun D σ H=>∃W:Nat->St->Hp->Prop,(∃m,W m σ H)/\∀m σ H,W m σ H->
 c σ H fun b H1=>if b=true then ∃N:St->Hp->Prop,(∀σ' H',N σ' H'->∃m',m' < m/\W m' σ' H')/\tb {D with nx:=N,ct:=N,bk:=D.nx} σ H1 else D.nx σ H1
theorem au8 {c:Expr}{body:List Stmt}{tc:TT}{tb:TS}(hp:PassesOwn (model X.prog X.w) X.A X.env X.xe)(hc:PT X c tc)(hb:X5 X body tb):PS X (.While c body [] pos) (ch5 tc tb):=by
 intro pins s σ H D I h;obtain ⟨W,⟨m0,w0⟩,turn⟩:=h;refine wpAny_While (codeAny_whileLoop (fun n s'=>∃σ' H',g9 X pins σ' H' s'/\W n σ' H') ?_ m0 ⟨σ,H,I,w0⟩);rintro n s1 ⟨σ1,H1,I1,w1⟩;refine wpAny_passesOwn hp (p6 (hc pins s1 σ1 H1 _ I1 (turn n σ1 H1 w1)) fun b s2 ⟨H2,I2,q2⟩=> ?_)
 cases b with
 |true=>
  obtain ⟨N,hN,q2⟩:=q2;rw[if_pos rfl];refine wpAny_passesOwn hp (p6 (hb pins s2 σ1 H2 _ I2 q2) fun f s3 q3=> ?_)
  cases f with
  |next=>
   obtain ⟨σ3,H3,I3,n3⟩:=q3;obtain ⟨m',hm,w3⟩:=hN σ3 H3 n3;exact ⟨m',hm,σ3,H3,I3,w3⟩
  |cont=>
   obtain ⟨σ3,H3,I3,n3⟩:=q3;obtain ⟨m',hm,w3⟩:=hN σ3 H3 n3;exact ⟨m',hm,σ3,H3,I3,w3⟩
  |brk=>exact q3
  |ret v=>exact q3
 |false=>
  rw[if_neg dv3];exact wpAny_execs_nil ⟨σ1,H2,I2,q2⟩
end
structure It where
 go:Nat->Hp->Prop
 yld:Nat->Hp->V->Hp->Prop
 stop:Nat->Hp->Prop
def an3 (X:Cx)(pins:List (Addr×Obj))(H:Hp)(b:Addr):Prop:=
 H b=none/\b≠X.env.locals/\b∉X.fs/\(b∈X.ex\/X.s₀.heap.objs.size<=b)/\(∀x c,X.env.cells.lookup x=some c->c≠b)/\∀p∈X.pn++pins,p.1≠b
theorem g9.fpOk {X:Cx}{pins:List (Addr×Obj)}{σ:St}{H H':Hp}{s:Shared}{b:Addr}(I:g9 X pins σ H s)(hb:s.heap.objs.size<=b)(hn:H' b=none):an3 X pins H' b:=by
 refine ⟨hn,Nat.ne_of_gt (dx4 I.lt hb),I.nofs hb,.inr (dt6 I.sz hb),fun x c e z=> ?_,fun p hp z=> ?_⟩
 · obtain ⟨v,q⟩:=I.cell x c e;exact absurd (dx4 q.lt (by rw[z];exact hb)) (ea8 _)
 · exact absurd (dx4 (Heap.lt_size (I.pin p hp).1) (by rw[z];exact hb)) (ea8 _)
structure bd1 (P:Program)(w:World)(K:PySem.W.Frag)(tg:Expr)(J:It)(fp:List Addr)(it:Addr)(tn:Nat->Heap->Prop):Prop where
 mem:it∈fp
 obj:∀i h,tn i h->∀b∈fp,∃o,h.get? b=some o/\∀v,o.data≠.cell v
 keep:∀i h h',tn i h->(∀b∈fp,∀o,h.get? b=some o->h'.get? b=some o)->tn i h'
 item:∀(X:Cx),X.prog=P->X.w=w->X.K=K->X.calm=true->∀(i:Nat) (pins:List (Addr×Obj)) (s:Shared) (σ:St) (H:Hp) (E:Value->Shared->Prop),g9 X pins σ H s->(∀b∈fp,an3 X pins H b)->tn i s.heap->J.go i H->
   wpAny (model P w) X.A (pyNext (.ref it)) (fun r s1=>∃u,r=some u/\
     wpAny (model P w) X.A (letOwnedTupleGo tg (.ref it) u) (fun _ s2=>∃x H',g9 X pins σ H' s2/\p5 x u/\J.yld i H x H'/\tn (i+1) s2.heap/\∀b∈fp,H' b=none) E s1) E s
 done:∀(X:Cx),X.prog=P->X.w=w->X.K=K->X.calm=true->∀(i:Nat) (pins:List (Addr×Obj)) (s:Shared) (σ:St) (H:Hp) (E:Value->Shared->Prop),g9 X pins σ H s->(∀b∈fp,an3 X pins H b)->tn i s.heap->J.stop i H->
   wpAny (model P w) X.A (pyNext (.ref it)) (fun r s1=>r=none/\g9 X pins σ H s1) E s
 self:∀(A:Around) (i:Nat) (s:Shared) (Q:Value->Shared->Prop) (E:Value->Shared->Prop),tn i s.heap->Q (.ref it) s->wpAny (model P w) A (pyIter (.ref it)) Q E s
abbrev TI:=St->Hp->(It->Hp->Prop)->Prop
def PIE (X:Cx)(pins:List (Addr×Obj))(σ:St)(tg:Expr)(R:It->Hp->Prop)(itv:Value)(s2:Shared):Prop:=
 ∃(it:Addr) (fp:List Addr) (tn:Nat->Heap->Prop) (J:It) (H':Hp),itv= .ref it/\g9 X pins σ H' s2/\bd1 X.prog X.w X.K tg J fp it tn/\tn 0 s2.heap/\(∀b∈fp,an3 X pins H' b)/\R J H'
def PI (X:Cx)(tg iter:Expr)(wi:TI):Prop:=
 ∀(pins:List (Addr×Obj)) (s:Shared) (σ:St) (H:Hp) (R:It->Hp->Prop),g9 X pins σ H s->wi σ H R->
  wpAny (model X.prog X.w) X.A (eval iter X.env) (fun v s1=>wpAny (model X.prog X.w) X.A (pyIter v) (PIE X pins σ tg R) X.xe s1) X.xe s
theorem bl5 {M:Model}{A:Around}{E:Value->Shared->Prop}{s:Shared}{tg:Expr}{it:Addr}{u:Value}{o:Obj}{n:String}{vs:Array Value}{Q:Unit->Shared->Prop}(ho:s.heap.get? it=some o)(hc:o.cls= .type n)(hd:o.data= .fields vs)
   (hn:["enumerate","zip","dict_itemiterator","dict_reverseitemiterator","odict_iterator","itertools.zip_longest","itertools.pairwise"].contains n=false) (hQ:Q () s):wpAny M A (letOwnedTupleGo tg (.ref it) u) Q E s:=by
 unfold letOwnedTupleGo
 cases tg<;>first
   |exact wpAny_pure hQ
   |(cases u<;>first
       |exact wpAny_pure hQ
       |(refine wpAny_bind (wpAny_load ho ?_)
         rw[hc,hd];show wpAny M A (if (["enumerate","zip","dict_itemiterator","dict_reverseitemiterator","odict_iterator","itertools.zip_longest","itertools.pairwise"].contains n&&vs[0]? ==some (rawInt _))=true then _ else _) Q E s;rw[if_neg (by intro h;rw[hn,Bool.false_and] at h;cases h)]
         exact wpAny_pure hQ))
def Itl (K:PySem.W.Frag)(a:Addr):It:=
 ⟨fun i H=>∃xs x,i5 K H a xs/\xs[i]? =some x,fun i H x H'=>H'=H/\∀xs,i5 K H a xs->xs[i]? =some x,fun i H=>∃xs,i5 K H a xs/\xs.length<=i⟩
def Itr (lo:Int)(n:Nat):It:=⟨fun i _=>i < n,fun i H x H'=>H'=H/\x= .int (lo+i),fun i _=>n<=i⟩
theorem ch6 {P:Program}{w:World}{K:PySem.W.Frag}{tg:Expr}(a it:Addr):bd1 P w K tg (Itl K a) [it] it (fun i h=>h.IsListIter it a i) where
 mem:=by simp
 obj:=fun i h st b hb=>by
   have e:b=it:=by simpa using hb
   subst e;obtain ⟨o,e,c,d⟩:=st;exact ⟨o,e,fun v z=>by rw[d] at z;cases z⟩
 keep:=fun i h h' st k=>st.at fun o e=>k it (by simp) o e
 item:=by
   intro X hP hw hK hc i pins s σ H E I hf st hg;subst hP hw hK;obtain ⟨xs,x,hq,hx⟩:=hg;obtain ⟨its,rv,p,hz⟩:=I.list hq;obtain ⟨u,hu,ru⟩:=rv.get hx;obtain ⟨f0,f1,f2,f3,f4,f5⟩:=hf it (by simp)
   refine wpAny_pyNext_list_item st p.isList (x:=u) (by simpa using hu) fun h' st' sb=> ?_
   have I1:g9 X pins σ H {s with heap:=h'}:=I.turned (t':=s.toks) (fun b o hb e=>(sb.2 b hb).trans e) f0 f1 f3 f4 f5;obtain ⟨o,e,c,d⟩:=id st';exact ⟨u,rfl,bl5 (s:={s with heap:=h'}) e c d (by decide) ⟨x,H,I1,ru,⟨rfl,fun ys hy=>by rw[I.list_inj hy hq];exact hx⟩,st',fun b hb=>(hf b hb).1⟩⟩
 done:=by
   intro X hP hw hK hc i pins s σ H E I hf st hg;subst hP hw hK;obtain ⟨xs,hq,hx⟩:=hg;obtain ⟨its,rv,p,hz⟩:=I.list hq;obtain ⟨f0,f1,f2,f3,f4,f5⟩:=hf it (by simp);have hl:=rv.length
   exact wpAny_pyNext_list_end (I.ok.hd hc) st p.isList (by simp;omega) fun h' eb=>⟨rfl,I.turned (t':=s.toks) (fun b o hb e=>eb b o hb e) f0 f1 f3 f4 f5⟩
 self:=fun _ _ _ _ _ st h=>wpAny_pyIter_listiter st h
theorem cc7 {P:Program}{w:World}{K:PySem.W.Frag}{tg:Expr}(it:Addr)(lo:Int)(n:Nat):bd1 P w K tg (Itr lo n) [it] it (fun i h=>IsRangeIter h it (lo+(i:Nat)*1) ((n:Int) - (i:Nat)) 1) where
 mem:=by simp
 obj:=fun i h st b hb=>by
   have e:b=it:=by simpa using hb
   subst e
   exact ⟨_,st,fun v z=>by
     have z':Data.fields _=Data.cell v:=z
     cases z'⟩
 keep:=fun i h h' st k=>k it (by simp) _ st
 item:=by
   intro X hP hw hK hc i pins s σ H E I hf st hg;subst hP hw hK;obtain ⟨f0,f1,f2,f3,f4,f5⟩:=hf it (by simp);have W:=Walks.range (prog:=X.prog) (w:=X.w) (I.ok.hd hc) it lo 1 n
   refine W.item i s _ _ hg st fun v h' tk hv st' kk=> ?_
   obtain ⟨t,rfl⟩:=hv;have I1:g9 X pins σ H {s with heap:=h',toks:=tk}:=I.turned (fun b o hb e=>kk b o (by simpa using hb) e) f0 f1 f3 f4 f5;refine ⟨_,rfl,bl5 (s:={s with heap:=h',toks:=tk}) (n:="range_iterator") st' rfl rfl (by decide) ⟨.int (lo+i),H,I1,⟨t,?_⟩,⟨rfl,rfl⟩,st',fun b hb=>(hf b hb).1⟩⟩;rw[Int.mul_one]
 done:=by
   intro X hP hw hK hc i pins s σ H E I hf st hg;subst hP hw hK;obtain ⟨f0,f1,f2,f3,f4,f5⟩:=hf it (by simp)
   exact wpAny_pyNext_range_end (I.ok.hd hc) st (by have:n<=i:=hg;omega) fun h' eb=>⟨rfl,I.turned (t':=s.toks) (fun b o hb e=>eb b o hb e) f0 f1 f3 f4 f5⟩
 self:=fun _ _ _ _ _ st h=>wpAny_pyIter_rangeiter st h
end L2
namespace L2
open PySem PySem.Spec PyProof.Rows
section
variable {X:Cx} {tg:Expr}
def cw2 (K:PySem.W.Frag)(tl:TE):TI:=fun σ H R=>tl σ H fun x H1=>∃a,x= .ref a/\(∃xs,i5 K H1 a xs)/\R (Itl K a) H1
theorem t5 {l:Expr}{tl:TE}(hl:PE X l tl):PI X tg l (cw2 X.K tl):=by
 intro pins s σ H R I h
 refine p6 (hl pins s σ H _ I h) fun v s1 ⟨x,H1,I1,r1,q1⟩=> ?_
 obtain ⟨a,e,⟨xs,hq⟩,q⟩:=q1;subst e;cases r1;obtain ⟨its,rv,p,hz⟩:=I1.list hq;refine wpAny_pyIter_list p.isList ?_;refine ⟨s1.heap.objs.size,[s1.heap.objs.size],_,_,H1,rfl,I1.kept (t':=s1.toks) fun b o e=>Heap.get?_push_of_some _ e,ch6 a _,⟨_,Heap.get?_push_size _ rfl,rfl,rfl⟩,fun b hb=> ?_,q⟩
 have e:b=s1.heap.objs.size:=by simpa using hb
 subst e;exact I1.fpOk (ds4 _) (I1.hok.fresh (ds4 _))
theorem bm9 {pins:List (Addr×Obj)}{σ:St}{H:Hp}{s:Shared}{R:It->Hp->Prop}{E:Value->Shared->Prop}{lo hi:Int}{t u v:Tok}{tk:Nat}(I:g9 X pins σ H s)(h1: -(2^62)<=lo)(h2:lo < 2^62)(h3: -(2^62)<=hi)(h4:hi < 2^62)
   (q:R (Itr lo (hi - lo).toNat) H):wpAny (model X.prog X.w) X.A (pyIter (.ref s.heap.objs.size)) (PIE X pins σ tg R) E {s with heap:=s.heap.push {cls:= .type "range",data:= .fields #[.int lo t,.int hi u,.int 1 v]},toks:=tk}:=by
 refine wpAny_pyIter_range (IsRange.new ..) (small_one h1 h2 h3 h4) ?_
 have I1:g9 X pins σ H {s with heap:=s.heap.push {cls:= .type "range",data:= .fields #[.int lo t,.int hi u,.int 1 v]},toks:=tk}:=I.kept fun b o e=>Heap.get?_push_of_some _ e
 refine ⟨(s.heap.push {cls:= .type "range",data:= .fields #[.int lo t,.int hi u,.int 1 v]}).objs.size,[(s.heap.push {cls:= .type "range",data:= .fields #[.int lo t,.int hi u,.int 1 v]}).objs.size],_,_,H,rfl,
   I1.kept (t':=tk) fun b o e=>Heap.get?_push_of_some _ e,cc7 _ lo (hi - lo).toNat,?_,fun b hb=> ?_,q⟩
 · have e1:lo+((0:Nat):Int)*1=lo:=by simp
   have e2:(((hi - lo).toNat:Nat):Int) - ((0:Nat):Int)=Builtin.Range.rangeSize lo hi 1:=by rw[rangeSize_one];split<;>omega
   show IsRangeIter _ _ (lo+((0:Nat):Int)*1) ((((hi - lo).toNat:Nat):Int) - ((0:Nat):Int)) 1;rw[e1,e2];exact Heap.get?_push_size _ rfl
 · have e:b=(s.heap.push {cls:= .type "range",data:= .fields #[.int lo t,.int hi u,.int 1 v]}).objs.size:=by simpa using hb
   subst e;exact I1.fpOk (ds4 _) (I1.hok.fresh (ds4 _))
def dk3 (ta:TA):TI:=fun σ H R=>ta σ H fun vs H1=>∃j:Int,vs=[.int j]/\ -(2^62)<=j/\j < 2^62/\R (Itr 0 j.toNat) H1
def dk4 (ta:TA):TI:=fun σ H R=>ta σ H fun vs H1=>∃i j:Int,vs=[.int i,.int j]/\(-(2^62)<=i/\i < 2^62/\ -(2^62)<=j/\j < 2^62)/\R (Itr i (j - i).toNat) H1
theorem X7 {a:Expr}{ta:TA}{p pos:Pos}(hg:Gl X "range")(hm:X.mg "range"=none)(ha:PA X [a] ta)(hs:starEach [a] X.env=[(false,eval a X.env)]:=by rfl):PI X tg (.Call (.Name "range" p) [a] [] pos) (dk3 ta):=by
 intro pins s σ H R I h;refine Call_ (X6 I hg hm boot_range (PyProof.Rows.callWith_type1 (p6 (ha pos pins s σ H _ I h) fun us s1 ⟨vs,H1,I1,r1,q1⟩=> ?_) hs rfl));obtain ⟨j,e,q1,q2,q⟩:=q1;subst e
 cases r1 with
 |cons r rr=>
  cases rr;obtain ⟨t,rfl⟩:=r;exact call_range_1 (bm9 I1 (by omega) (by omega) q1 q2 (by simpa using q))
theorem K5 {a b:Expr}{ta:TA}{p pos:Pos}(hg:Gl X "range")(hm:X.mg "range"=none)(ha:PA X [a,b] ta)(hs:starEach [a,b] X.env=[(false,eval a X.env),(false,eval b X.env)]:=by rfl)(hs2:starEach [b] X.env=[(false,eval b X.env)]:=by rfl):
   PI X tg (.Call (.Name "range" p) [a,b] [] pos) (dk4 ta):=by
 intro pins s σ H R I h;refine Call_ (X6 I hg hm boot_range (PyProof.Rows.callWith_type1 (p6 (ha pos pins s σ H _ I h) fun us s1 ⟨vs,H1,I1,r1,q1⟩=> ?_) (by rw[hs,hs2]) (by rw[hs2];rfl)));obtain ⟨i,j,e,⟨q1,q2,q3,q4⟩,q⟩:=q1;subst e
 cases r1 with
 |cons r rr=>
  cases rr with
  |cons r' rr=>
   cases rr;obtain ⟨t,rfl⟩:=r;obtain ⟨t',rfl⟩:=r';exact call_range_2 (bm9 I1 q1 q2 q3 q4 q)
def de4 (wi:TI)(g:TG)(tb:TS):TS:=fun D σ H=>wi σ H fun J H1=>∃W:Nat->Nat->St->Hp->Prop,(∃m,W 0 m σ H1)/\∀i m σ H,W i m σ H->
 (J.stop i H/\D.nx σ H)\/(J.go i H/\∃N:St->Hp->Prop,(∀σ' H',N σ' H'->∃m',m' < m/\W (i+1) m' σ' H')/\∀x H',J.yld i H x H'->g x σ H' fun σ2 H2=>tb {D with nx:=N,ct:=N,bk:=D.nx} σ2 H2)
def ac1 (fp:List Addr)(h:Heap):List (Addr×Obj):=fp.filterMap fun b=>(h.get? b).map fun o=>(b,o)
theorem aa2 {fp:List Addr}{h:Heap}{b:Addr}{o:Obj}(hb:b∈fp)(e:h.get? b=some o):(b,o)∈ac1 fp h:=List.mem_filterMap.mpr ⟨b,hb,by rw[e];rfl⟩
theorem bh2 {fp:List Addr}{h:Heap}{p:Addr×Obj}(hp:p∈ac1 fp h):p.1∈fp/\h.get? p.1=some p.2:=by
 obtain ⟨b,hb,e⟩:=List.mem_filterMap.mp hp
 cases q:h.get? b with
 |none=>rw[q] at e;cases e
 |some o=>
  rw[q] at e;have e':(b,o)=p:=Option.some.inj e;subst e';exact ⟨hb,q⟩
theorem g9.pinned {pins:List (Addr×Obj)}{σ:St}{H:Hp}{s:Shared}{fp:List Addr}(I:g9 X pins σ H s)(hf:∀b∈fp,an3 X pins H b)(ho:∀b∈fp,∃o,s.heap.get? b=some o/\∀v,o.data≠.cell v):g9 X (pins++ac1 fp s.heap) σ H s:=
 I.pins_of fun p hp=>(dt4.mp hp).elim (fun z=>I.pin p (dv5 _ z)) fun z=>by
   obtain ⟨hb,e⟩:=bh2 z;obtain ⟨f0,f1,f2,_⟩:=hf p.1 hb;obtain ⟨o,e',d⟩:=ho p.1 hb;rw[e] at e';cases e';exact ⟨e,f0,f1,f2,d⟩
theorem g9.unpinned {pins pl:List (Addr×Obj)}{σ:St}{H:Hp}{s:Shared}(I:g9 X (pins++pl) σ H s):g9 X pins σ H s:=I.pins_of fun p hp=>I.pin p (dv5 _ (dy4 _ hp))
theorem l9 {iter:Expr}{body:List Stmt}{wi:TI}{g:TG}{tb:TS}{pos:Pos}(hp:PassesOwn (model X.prog X.w) X.A X.env X.xe)(hc:X.calm=true)(hi:PI X tg iter wi)(hg:PG X tg g)(hb:X5 X body tb)
   (hs:∀x,foldedSetIterable iter X.env x=pure x:=by intro _;rfl):PS X (.For tg iter body [] pos) (de4 wi g tb):=by
 intro pins s σ H D I h;refine wpAny_For (p6 (hi pins s σ H _ I h) fun v s1 h1=>p6 h1 fun itv s2 h2=> ?_) hs;obtain ⟨it,fp,tn,J,H2,e,I2,T,st2,f2,W,⟨m0,w0⟩,turn⟩:=h2;subst e
 have stat:∀{H':Hp},(∀b∈fp,H' b=none)->∀b∈fp,an3 X pins H' b:=fun hn b hb=>⟨hn b hb,(f2 b hb).2⟩
 refine codeAny_forLoop_any (fun n s'=>∃i σ' H',g9 X pins σ' H' s'/\tn i s'.heap/\(∀b∈fp,H' b=none)/\W i n σ' H') ?_ m0 ⟨0,σ,H2,I2,st2,fun b hb=>(f2 b hb).1,w0⟩;rintro n s3 ⟨i,σ3,H3,I3,st3,fr3,w3⟩
 rcases turn i n σ3 H3 w3 with ⟨stop,qn⟩|⟨go,N,hN,step⟩
 · refine wpAny_passesOwn hp (p6 (T.done X rfl rfl rfl hc i pins s3 σ3 H3 X.xe I3 (stat fr3) st3 stop) fun r s4 ⟨hr,I4⟩=> ?_);subst hr;exact wpAny_execs_nil ⟨σ3,H3,I4,qn⟩
 · refine wpAny_passesOwn hp (p6 (T.item X rfl rfl rfl hc i pins s3 σ3 H3 X.xe I3 (stat fr3) st3 go) fun r s4 ⟨u,hr,h4⟩=> ?_);subst hr;refine wpAny_passesOwn hp (p6 h4 fun _ s5 ⟨x,H5,I5,r5,y5,st5,fr5⟩=> ?_);have I5':=I5.pinned (stat fr5) (T.obj _ _ st5);refine wpAny_passesOwn hp (p6 (hg _ s5 σ3 H5 x u _ I5' r5 (step x H5 y5)) fun _ s6 ⟨σ6,H6,I6,q6⟩=> ?_);refine wpAny_passesOwn hp (p6 (hb _ s6 σ6 H6 _ I6 q6) fun f s7 q7=> ?_)
   have again:∀{σ7:St} {H7:Hp},g9 X (pins++ac1 fp s5.heap) σ7 H7 s7->N σ7 H7->∃m,m < n/\∃i σ' H',g9 X pins σ' H' s7/\tn i s7.heap/\(∀b∈fp,H' b=none)/\W i m σ' H':=fun {σ7 H7} I7 n7=>by
     obtain ⟨m',hm,w7⟩:=hN σ7 H7 n7;refine ⟨m',hm,i+1,σ7,H7,I7.unpinned,T.keep _ _ _ st5 fun b hb o e=>(I7.pin (b,o) (dv5 _ (dv5 _ (aa2 hb e)))).1,fun b hb=> ?_,w7⟩;obtain ⟨o,e,d⟩:=T.obj _ _ st5 b hb;exact (I7.pin (b,o) (dv5 _ (dv5 _ (aa2 hb e)))).2.1
   cases f with
   |next=>obtain ⟨σ7,H7,I7,n7⟩:=q7;exact again I7 n7
   |cont=>obtain ⟨σ7,H7,I7,n7⟩:=q7;exact again I7 n7
   |brk=>obtain ⟨σ7,H7,I7,q7⟩:=q7;exact ⟨σ7,H7,I7.unpinned,q7⟩
   |ret v=>obtain ⟨x7,σ7,H7,I7,r7,q7⟩:=q7;exact ⟨x7,σ7,H7,I7.unpinned,r7,q7⟩
end
theorem w4 {K:PySem.W.Frag}{a:Addr}{xs:List V}{g:TG}{tb:TS}{D:ab9}{σ:St}{H:Hp}(Pv:Nat->St->Hp->Prop)(h0:Pv 0 σ H)(hl:∀i σ H,i<=xs.length->Pv i σ H->i5 K H a xs)
   (hs:∀i x σ H,xs[i]? =some x->Pv i σ H->g x σ H fun σ2 H2=>tb {D with nx:=Pv (i+1),ct:=Pv (i+1),bk:=D.nx} σ2 H2) (hd:∀σ H,Pv xs.length σ H->D.nx σ H):
   ∃W:Nat->Nat->St->Hp->Prop,(∃m,W 0 m σ H)/\∀i m σ H,W i m σ H->
    ((Itl K a).stop i H/\D.nx σ H)\/((Itl K a).go i H/\∃N:St->Hp->Prop,(∀σ' H',N σ' H'->∃m',m' < m/\W (i+1) m' σ' H')/\∀x H',(Itl K a).yld i H x H'->g x σ H' fun σ2 H2=>tb {D with nx:=N,ct:=N,bk:=D.nx} σ2 H2):=by
 refine ⟨fun i m σ H=>m=xs.length - i/\i<=xs.length/\Pv i σ H,⟨xs.length,by simp,du3 _,h0⟩,?_⟩;rintro i m σ H ⟨rfl,hi,p⟩;have q:=hl i σ H hi p
 by_cases hlt:i < xs.length
 · refine .inr ⟨⟨xs,xs[i],q,by simp [hlt]⟩,Pv (i+1),fun σ' H' p'=>⟨xs.length - (i+1),by omega,rfl,hlt,p'⟩,fun x H' y=> ?_⟩;obtain ⟨e,y⟩:=y;subst e;exact hs i x σ _ (y xs q) p
 · have e:i=xs.length:=by omega
   subst e;exact .inl ⟨⟨xs,q,ds4 _⟩,hd σ H p⟩
theorem E8 {lo:Int}{n:Nat}{g:TG}{tb:TS}{D:ab9}{σ:St}{H:Hp}(Pv:Nat->St->Hp->Prop)(h0:Pv 0 σ H)
   (hs:∀i σ H,i < n->Pv i σ H->g (.int (lo+i)) σ H fun σ2 H2=>tb {D with nx:=Pv (i+1),ct:=Pv (i+1),bk:=D.nx} σ2 H2) (hd:∀σ H,Pv n σ H->D.nx σ H):
   ∃W:Nat->Nat->St->Hp->Prop,(∃m,W 0 m σ H)/\∀i m σ H,W i m σ H->
    ((Itr lo n).stop i H/\D.nx σ H)\/((Itr lo n).go i H/\∃N:St->Hp->Prop,(∀σ' H',N σ' H'->∃m',m' < m/\W (i+1) m' σ' H')/\∀x H',(Itr lo n).yld i H x H'->g x σ H' fun σ2 H2=>tb {D with nx:=N,ct:=N,bk:=D.nx} σ2 H2):=by
 refine ⟨fun i m σ H=>m=n - i/\i<=n/\Pv i σ H,⟨n,by simp,du3 _,h0⟩,?_⟩;rintro i m σ H ⟨rfl,hi,p⟩
 by_cases hlt:i < n
 · refine .inr ⟨hlt,Pv (i+1),fun σ' H' p'=>⟨n - (i+1),by omega,rfl,hlt,p'⟩,fun x H' y=> ?_⟩;obtain ⟨e,y⟩:=y;subst e y;exact hs i σ _ hlt p
 · have e:i=n:=by omega
   subst e;exact .inl ⟨ds4 _,hd σ H p⟩
theorem bn0 {c:TT}{tb:TS}{D:ab9}{σ:St}{H:Hp}(Pv:St->Hp->Prop)(μ:St->Hp->Nat)(h0:Pv σ H)
   (hs:∀σ H,Pv σ H->c σ H fun b H1=>if b=true then tb {D with nx:=fun σ' H'=>Pv σ' H'/\μ σ' H' < μ σ H,ct:=fun σ' H'=>Pv σ' H'/\μ σ' H' < μ σ H,bk:=D.nx} σ H1 else D.nx σ H1)
   (mono:∀σ H Q Q',(∀b H1,Q b H1->Q' b H1)->c σ H Q->c σ H Q'):ch5 c tb D σ H:=by
 refine ⟨fun m σ H=>m=μ σ H/\Pv σ H,⟨_,rfl,h0⟩,?_⟩;rintro m σ H ⟨rfl,p⟩;refine mono σ H _ _ (fun b H1 q=> ?_) (hs σ H p)
 cases b with
 |true=>exact ⟨_,fun σ' H' ⟨p',l⟩=>⟨_,l,rfl,p'⟩,q⟩
 |false=>exact q
end L2
namespace L2
open PySem PySem.Spec PyProof.Rows
abbrev R2:=V->V->Hp->VK->Prop
def N8 (X:Cx)(f:Value->Value->Sem Value)(r:R2):Prop:=
 ∀(pins:List (Addr×Obj)) (s:Shared) (σ:St) (H:Hp) (x y:V) (v u:Value) (Q:VK),g9 X pins σ H s->p5 x v->p5 y u->r x y H Q->
  wpAny (model X.prog X.w) X.A (f v u) (EP X pins σ Q) X.xe s
def K9 (X:Cx)(f:Value)(r:List V->Hp->VK->Prop):Prop:=
 ∀(pins:List (Addr×Obj)) (s:Shared) (σ:St) (H:Hp) (xs:List V) (us:List Value) (Q:VK),g9 X pins σ H s->m8 xs us->r xs H Q->
  wpAny (model X.prog X.w) X.A (call f us) (EP X pins σ Q) X.xe s
def tOp (r:R2)(ta tb:TE):TE:=fun σ H Q=>ta σ H fun x H1=>tb σ H1 fun y H2=>r x y H2 Q
def rI (C:Int->Int->Prop)(g:Int->Int->V):R2:=fun x y H Q=>∃i j,x= .int i/\y= .int j/\C i j/\Q (g i j) H
def rI0 (g:Int->Int->V):R2:=fun x y H Q=>∃i j,x= .int i/\y= .int j/\Q (g i j) H
section
variable {X:Cx} {a b c:Expr} {ta tb tc:TE} {pos:Pos}
theorem cp3 (ha:PE X a ta)(hb:PE X b tb){pins:List (Addr×Obj)}{s:Shared}{σ:St}{H:Hp}{R:V->V->Hp->Prop}(I:g9 X pins σ H s)
   (h:ta σ H fun x H1=>tb σ H1 fun y H2=>R x y H2) {Q:Value->Shared->Prop} {f:Value->Value->Sem Value}
   (hf:∀v u s2 x y H2,g9 X pins σ H2 s2->p5 x v->p5 y u->R x y H2->wpAny (model X.prog X.w) X.A (f v u) Q X.xe s2):
   wpAny (model X.prog X.w) X.A (eval a X.env) (fun v s₁=>wpAny (model X.prog X.w) X.A (eval b X.env) (fun u s₂=>wpAny (model X.prog X.w) X.A (f v u) Q X.xe s₂) X.xe s₁) X.xe s:=by
 refine p6 (ha pins s σ H _ I h) fun v s1 ⟨x,H1,I1,r1,q1⟩=> ?_
 refine p6 (hb pins s1 σ H1 _ I1 q1) fun u s2 ⟨y,H2,I2,r2,q2⟩=> ?_
 exact hf v u s2 x y H2 I2 r1 r2 q2
theorem j6 {op:Operator}{r:R2}(ho:N8 X (binaryOp op) r)(ha:PE X a ta)(hb:PE X b tb):PE X (.BinOp a op b pos) (tOp r ta tb):=by
 intro pins s σ H Q I h;exact wpAny_BinOp (cp3 ha hb I h fun v u s2 x y H2 I2 rx ry q=>ho pins s2 σ H2 x y v u Q I2 rx ry q)
theorem opI {f:Value->Value->Sem Value}{C:Int->Int->Prop}{g:Int->Int->Int}
   (rule:∀(i j:Int) (t u:Tok) (s:Shared) (Q:Value->Shared->Prop) (E:Value->Shared->Prop),C i j->Q (.int (g i j) s.toks) {s with toks:=s.toks+1}->wpAny (model X.prog X.w) X.A (f (.int i t) (.int j u)) Q E s):
   N8 X f (rI C fun i j=> .int (g i j)):=by
 intro pins s σ H x y v u Q I rx ry h;obtain ⟨i,j,rfl,rfl,hc,q⟩:=h;obtain ⟨t,rfl⟩:=rx;obtain ⟨t',rfl⟩:=ry;exact rule i j t t' s _ _ hc ⟨.int (g i j),H,I.tok _,⟨_,rfl⟩,q⟩
theorem de5 {f:Value->Value->Sem Value}{g:Int->Int->Int}
   (rule:∀(i j:Int) (t u:Tok) (s:Shared) (Q:Value->Shared->Prop) (E:Value->Shared->Prop),Q (.int (g i j) s.toks) {s with toks:=s.toks+1}->wpAny (model X.prog X.w) X.A (f (.int i t) (.int j u)) Q E s):
   N8 X f (rI0 fun i j=> .int (g i j)):=by
 intro pins s σ H x y v u Q I rx ry h;obtain ⟨i,j,rfl,rfl,q⟩:=h;obtain ⟨t,rfl⟩:=rx;obtain ⟨t',rfl⟩:=ry;exact rule i j t t' s _ _ ⟨.int (g i j),H,I.tok _,⟨_,rfl⟩,q⟩
theorem cc8 {f:Value->Value->Sem Value}{g:Int->Int->Bool}
   (rule:∀(i j:Int) (t u:Tok) (s:Shared) (Q:Value->Shared->Prop) (E:Value->Shared->Prop),Q (.bool (g i j)) s->wpAny (model X.prog X.w) X.A (f (.int i t) (.int j u)) Q E s):
   N8 X f (rI0 fun i j=> .bl (g i j)):=by
 intro pins s σ H x y v u Q I rx ry h;obtain ⟨i,j,rfl,rfl,q⟩:=h;obtain ⟨t,rfl⟩:=rx;obtain ⟨t',rfl⟩:=ry;exact rule i j t t' s _ _ ⟨.bl (g i j),H,I,rfl,q⟩
def dp4 (i j:Int):Prop:=0 < j/\j < 1073741824
def de6 (i j:Int):Prop:=0<=j/\j<=1000000/\i.natAbs < 2^64
def cp4 (i j:Int):Prop:=(-(2^64) < i/\i < 2^64)\/(-(2^64) < j/\j < 2^64)
theorem cp4.ok {i j:Int}(h:cp4 i j):IntMulOk i j:=by
 rcases h with ⟨h1,h2⟩|⟨h1,h2⟩
 · exact .of_left (intBits_le_64 h1 h2)
 · exact .of_right (intBits_le_64 h1 h2)
theorem x3:N8 X (binaryOp .Add) (rI0 fun i j=> .int (i+j)):=de5 fun _ _ _ _ _ _ _ q=>add_int q
theorem ay1:N8 X (binaryOp .Sub) (rI0 fun i j=> .int (i - j)):=de5 fun _ _ _ _ _ _ _ q=>sub_int q
theorem C4:N8 X (binaryOp .Mult) (rI cp4 fun i j=> .int (i*j)):=opI fun _ _ _ _ _ _ _ hc q=>mul_int q hc.ok
theorem cy3:N8 X (binaryOp .FloorDiv) (rI dp4 fun i j=> .int (i/j)):=opI fun i j _ _ _ _ _ hc q=>by
 have h1:(0:Int) < j:=hc.1;have h2:j < 1073741824:=hc.2;exact floordiv_int (by omega) (by rw[ei1 i (by omega)];exact q) (.inl (PyProof.noPylong_small (by omega)))
theorem R6:N8 X (binaryOp .Mod) (rI (fun _ j=>0 < j) fun i j=> .int (i%j)):=opI fun i j _ _ _ _ _ hc q=>by
 have h1:(0:Int) < j:=hc;exact mod_int' (by omega) (by rw[Int.fmod_eq_emod_of_nonneg i (by omega)];exact q)
theorem ah6:N8 X (binaryOp .Pow) (rI de6 fun i j=> .int (i^j.toNat)):=opI fun _ _ _ _ _ _ _ hc q=>pow_int_small hc.1 hc.2.1 hc.2.2 q
end
def de7:V->V->Bool
 | .non,.non=>true| .non,.int _=>true| .int _,.non=>true| .non,.bl _=>true| .bl _,.non=>true| .non,.str _=>true| .str _,.non=>true
 | .int _,.int _=>true| .bl _,.bl _=>true| .str _,.str _=>true| .byt _,.byt _=>true
 | .int _,.str _=>true| .str _,.int _=>true| .bl _,.str _=>true| .str _,.bl _=>true
 |_,_=>false
def rEq:R2:=fun x y H Q=>de7 x y=true/\Q (.bl (decide (x=y))) H
def rNe:R2:=fun x y H Q=>de7 x y=true/\Q (.bl (!decide (x=y))) H
theorem by1 {i j:Int}:decide (V.int i=V.int j)=(i==j):=by
 rw[eg7];simp
theorem ch7 {i j:Bool}:decide (V.bl i=V.bl j)=(i==j):=by
 rw[eg7];simp
theorem by2 {i j:Str}:decide (V.str i=V.str j)=(i==j):=by
 rw[eg7];simp
theorem by3 {i j:Array UInt8}:decide (V.byt i=V.byt j)=(i.toList==j.toList):=by
 rw[eg7];cases i;cases j;simp
section
variable {X:Cx} {a b c:Expr} {ta tb tc:TE} {pos:Pos}
theorem w5 {pins:List (Addr×Obj)}{σ:St}{H:Hp}{s:Shared}{Q:VK}{k k':Bool}(I:g9 X pins σ H s)(q:Q (.bl k) H)(e:k=k'):EP X pins σ Q (.bool k') s:=by
 subst e;exact ⟨.bl k,H,I,rfl,q⟩
theorem U0:N8 X (compareOp .Eq) rEq:=by
 intro pins s σ H x y v u Q I rx ry h;obtain ⟨hs,q⟩:=h
 cases x with
 |non=>
  cases rx
  cases y with
  |non=>cases ry;exact PySem.EqNone.eq_none_none (w5 I q (by simp))
  |bl j=>cases ry;exact PySem.EqNone.eq_none_bool (w5 I q (by simp))
  |int j=>obtain ⟨t',rfl⟩:=ry;exact PySem.EqNone.eq_none_int (w5 I q (by simp))
  |str j=>obtain ⟨t',rfl⟩:=ry;exact PySem.EqNone.eq_none_str (w5 I q (by simp))
  |_=>exact absurd (show false=true from hs) dv3
 |bl i=>
  cases rx
  cases y with
  |non=>cases ry;exact PySem.EqNone.eq_bool_none (w5 I q (by simp))
  |bl j=>cases ry;exact eq_bool (w5 I q ch7)
  |str j=>obtain ⟨t',rfl⟩:=ry;exact PySem.EqMixed.eq_bool_str (w5 I q (by simp))
  |_=>exact absurd (show false=true from hs) dv3
 |int i=>
  obtain ⟨t,rfl⟩:=rx
  cases y with
  |non=>cases ry;exact PySem.EqNone.eq_int_none (w5 I q (by simp))
  |int j=>obtain ⟨t',rfl⟩:=ry;exact eq_int (w5 I q by1)
  |str j=>obtain ⟨t',rfl⟩:=ry;exact PySem.EqMixed.eq_int_str (w5 I q (by simp))
  |_=>exact absurd (show false=true from hs) dv3
 |str i=>
  obtain ⟨t,rfl⟩:=rx
  cases y with
  |non=>cases ry;exact PySem.EqNone.eq_str_none (w5 I q (by simp))
  |bl j=>cases ry;exact PySem.EqMixed.eq_str_bool (w5 I q (by simp))
  |int j=>obtain ⟨t',rfl⟩:=ry;exact PySem.EqMixed.eq_str_int (w5 I q (by simp))
  |str j=>obtain ⟨t',rfl⟩:=ry;exact eq_str (w5 I q by2)
  |_=>exact absurd (show false=true from hs) dv3
 |byt i=>
  obtain ⟨t,rfl⟩:=rx
  cases y with
  |byt j=>obtain ⟨t',rfl⟩:=ry;exact PySem.W.eq_bytes (w5 I q by3)
  |_=>exact absurd (show false=true from hs) dv3
 |_=>cases y<;>exact absurd (show false=true from hs) dv3
theorem aq3:N8 X (compareOp .NotEq) rNe:=by
 intro pins s σ H x y v u Q I rx ry h;obtain ⟨hs,q⟩:=h
 cases x with
 |non=>
  cases rx
  cases y with
  |non=>cases ry;exact PySem.EqNone.ne_none_none (w5 I q (by simp))
  |bl j=>cases ry;exact PySem.EqNone.ne_none_bool (w5 I q (by simp))
  |int j=>obtain ⟨t',rfl⟩:=ry;exact PySem.EqNone.ne_none_int (w5 I q (by simp))
  |str j=>obtain ⟨t',rfl⟩:=ry;exact PySem.EqNone.ne_none_str (w5 I q (by simp))
  |_=>exact absurd (show false=true from hs) dv3
 |bl i=>
  cases rx
  cases y with
  |non=>cases ry;exact PySem.EqNone.ne_bool_none (w5 I q (by simp))
  |bl j=>cases ry;exact ne_bool (w5 I q (congrArg not ch7))
  |str j=>obtain ⟨t',rfl⟩:=ry;exact PySem.EqMixed.ne_bool_str (w5 I q (by simp))
  |_=>exact absurd (show false=true from hs) dv3
 |int i=>
  obtain ⟨t,rfl⟩:=rx
  cases y with
  |non=>cases ry;exact PySem.EqNone.ne_int_none (w5 I q (by simp))
  |int j=>obtain ⟨t',rfl⟩:=ry;exact ne_int (w5 I q (congrArg not by1))
  |str j=>obtain ⟨t',rfl⟩:=ry;exact PySem.EqMixed.ne_int_str (w5 I q (by simp))
  |_=>exact absurd (show false=true from hs) dv3
 |str i=>
  obtain ⟨t,rfl⟩:=rx
  cases y with
  |non=>cases ry;exact PySem.EqNone.ne_str_none (w5 I q (by simp))
  |bl j=>cases ry;exact PySem.EqMixed.ne_str_bool (w5 I q (by simp))
  |int j=>obtain ⟨t',rfl⟩:=ry;exact PySem.EqMixed.ne_str_int (w5 I q (by simp))
  |str j=>obtain ⟨t',rfl⟩:=ry;exact ne_str (w5 I q (congrArg not by2))
  |_=>exact absurd (show false=true from hs) dv3
 |byt i=>
  obtain ⟨t,rfl⟩:=rx
  cases y with
  |byt j=>obtain ⟨t',rfl⟩:=ry;exact PySem.W.ne_bytes (w5 I q (congrArg not by3))
  |_=>exact absurd (show false=true from hs) dv3
 |_=>cases y<;>exact absurd (show false=true from hs) dv3
theorem ay2:N8 X (compareOp .Lt) (rI0 fun i j=> .bl (decide (i < j))):=cc8 fun _ _ _ _ _ _ _ q=>lt_int q
theorem ay3:N8 X (compareOp .LtE) (rI0 fun i j=> .bl (decide (i<=j))):=cc8 fun _ _ _ _ _ _ _ q=>le_int q
theorem ay4:N8 X (compareOp .Gt) (rI0 fun i j=> .bl (decide (j < i))):=cc8 fun _ _ _ _ _ _ _ q=>gt_int q
theorem cw4:N8 X (compareOp .GtE) (rI0 fun i j=> .bl (decide (j<=i))):=cc8 fun _ _ _ _ _ _ _ q=>ge_int q
theorem q5 (b:Expr){op:CmpOp}(h:op≠.In:=by decide)(h2:op≠.NotIn:=by decide):behindInMarks op b=false:=by
 have e1:(op==CmpOp.In)=false:=by cases op<;>first|rfl|exact absurd rfl h
 have e2:(op==CmpOp.NotIn)=false:=by cases op<;>first|rfl|exact absurd rfl h2
 cases b<;>simp [behindInMarks,e1,e2]
theorem aa9 {op:CmpOp}{r:R2}(ho:N8 X (compareOp op) r)(ha:PE X a ta)(hb:PE X b tb)(hm:behindInMarks op b=false):PE X (.Compare a [op] [b] pos) (tOp r ta tb):=by
 intro pins s σ H Q I h;exact wpAny_Compare1 (cp3 ha hb I h fun v u s2 x y H2 I2 rx ry q=>ho pins s2 σ H2 x y v u Q I2 rx ry q) hm
def dk5 (t:TE):TT:=fun σ H Q=>t σ H fun x H'=>∃k,x= .bl k/\Q k H'
theorem t6 {op:CmpOp}{r:R2}(ho:N8 X (compareOp op) r)(ha:PE X a ta)(hb:PE X b tb)(hm:behindInMarks op b=false):PT X (.Compare a [op] [b] pos) (dk5 (tOp r ta tb)):=by
 intro pins s σ H Q I h
 refine wpAny_isTrue_Compare1 (p6 (ha pins s σ H _ I h) fun v s1 ⟨x,H1,I1,r1,q1⟩=>p6 (hb pins s1 σ H1 _ I1 q1) fun u s2 ⟨y,H2,I2,r2,q2⟩=>
   p6 (ho pins s2 σ H2 x y v u _ I2 r1 r2 q2) fun c s3 ⟨z,H3,I3,r3,k,e,q3⟩=> ?_) hm
 subst e;cases r3;exact wpAny_truthy_bool ⟨H3,I3,q3⟩
theorem ay5:(sizeLine:Nat) < 2^63:=by rw[sizeLine_eq];decide
theorem Q2 {x:V}{us:List Value}(r:m8 [x] us):∃u,us=[u]/\p5 x u:=by
 cases r with
 |cons r1 r2=>cases r2;exact ⟨_,rfl,r1⟩
theorem bl6 {x y:V}{us:List Value}(r:m8 [x,y] us):∃u w',us=[u,w']/\p5 x u/\p5 y w':=by
 cases r with
 |cons r1 r2=>
  cases r2 with
  |cons r3 r4=>cases r4;exact ⟨_,_,rfl,r1,r3⟩
theorem ch8 (hc:X.calm=true):K9 X (.builtin "max") (fun xs H Q=>∃i j,xs=[.int i,.int j]/\Q (.int (if j > i then j else i)) H):=by
 intro pins s σ H xs us Q I r h;obtain ⟨i,j,rfl,q⟩:=h;obtain ⟨u,w',rfl,⟨t,rfl⟩,⟨t',rfl⟩⟩:=bl6 r
 refine max_two_ints (I.ok.hd hc) fun h' tk k=>⟨_,H,I.kept k,?_,q⟩
 by_cases hj:j > i
 · rw[if_pos hj,if_pos hj];exact ⟨_,rfl⟩
 · rw[if_neg hj,if_neg hj];exact ⟨_,rfl⟩
theorem ch9 (hc:X.calm=true):K9 X (.builtin "min") (fun xs H Q=>∃i j,xs=[.int i,.int j]/\Q (.int (if j < i then j else i)) H):=by
 intro pins s σ H xs us Q I r h;obtain ⟨i,j,rfl,q⟩:=h;obtain ⟨u,w',rfl,⟨t,rfl⟩,⟨t',rfl⟩⟩:=bl6 r
 refine min_two_ints (I.ok.hd hc) fun h' tk k=>⟨_,H,I.kept k,?_,q⟩
 by_cases hj:j < i
 · rw[if_pos hj,if_pos hj];exact ⟨_,rfl⟩
 · rw[if_neg hj,if_neg hj];exact ⟨_,rfl⟩
end
end L2
namespace L2
open PySem PySem.Spec PyProof.Rows
structure cp5 (h:Heap)(x dx C:Addr)(mA:Str->Option Value):Prop where
 obj:h.get? x=some (PySem.W.instObj C dx)
 ns:h.Ns1 dx mA
 ne:dx≠x
theorem ci0 {h:Heap}{dx:Addr}{mA:Str->Option Value}(n:h.Ns1 dx mA):∃od,h.get? dx=some od/\∀name,PySem.W.lookIn name od=some (mA name):=by
 obtain ⟨o,es,ep,ho,hd,hk,_,hm⟩:=n;refine ⟨o,ho,fun name=> ?_⟩;have e:=hm name;unfold nsFind findBy at e;rw[<-Array.find?_toList] at e;unfold PySem.W.lookIn;rw[hd]
 dsimp only
 split
 · rename_i y q;rw[q] at e;exact congrArg some e
 · rename_i q;rw[q] at e
   have a:es.toList.any (·.refKey)=false:=by
     rw[List.any_eq_false];intro y hy;obtain ⟨z,t,hkey⟩:=hk y (Array.mem_toList_iff.mp hy);simp [DictEntry.refKey,hkey]
   have a':¬es.toList.any (·.refKey)=true:=by rw[a];exact dv3
   rw[if_neg a'];exact congrArg some e
theorem cp5.look {h:Heap}{x dx C:Addr}{mA:Str->Option Value}(I:cp5 h x dx C mA):∃od,PySem.W.InstAt h x (PySem.W.instObj C dx) C (some od)/\∀name,PySem.W.lookIn name od=some (mA name):=
 let ⟨od,ho,hl⟩:=ci0 I.ns
 ⟨od,⟨I.obj,rfl,rfl,ho⟩,hl⟩
theorem ab8.some_of {v:V}{o:Option Value}(r:ab8 (some v) o):∃u,o=some u/\p5 v u:=by
 cases o with
 |none=>exact (show False from r).elim
 |some u=>exact ⟨u,rfl,r⟩
section
variable {P:Program} {w:World} {H H':Hp} {h h':Heap} {a C dx:Addr} {fs fs':List (Str×V)}
theorem cy4 (hok:E7 P w H h)(e:H a=some (.ins C dx fs)):∃mA,cp5 h a dx C mA/\(∀f,ab8 (fs.lookup f) (mA f))/\PySem.Within mA (fs.map (·.1))/\fs.length<=1000/\H dx=some (.own a):=by
 obtain ⟨d,z,ne,ob,mA,n,r,q⟩:=(show q9 P w H h a (.ins C dx fs) from hok a _ e);exact ⟨mA,⟨ob,n,ne⟩,r,q,z,d⟩
end
structure Cls (K:PySem.W.Frag)(C:Addr):Prop where
 pg:PySem.W.plainGet K C Str.empty=true
 hd:PySem.W.hasDictIn K C=true
 po:PySem.W.plainOver K C=true
 sa:PySem.W.findIn K (.ref C) "__setattr__"=some (some (.builtin "object.__setattr__"))
theorem Cls.get {K:PySem.W.Frag}{C:Addr}(c:Cls K C)(f:Str):PySem.W.plainGet K C f=true:=c.pg
section
variable {X:Cx} {pins:List (Addr×Obj)} {σ:St} {H:Hp} {s:Shared} {A:Around} {E:Value->Shared->Prop} {Q:Value->Shared->Prop} {c:Value} {b:Bool}
inductive S4 (K:PySem.W.Frag)(H:Hp):V->Value->Prop where
 |non:S4 K H .non (.type "NoneType")
 |bl (x:Bool):S4 K H (.bl x) (.type "bool")
 |int (i:Int):S4 K H (.int i) (.type "int")
 |str (x:Str):S4 K H (.str x) (.type "str")
 |flt (x:UInt64):S4 K H (.flt x) (.type "float")
 |lst {a:Addr} {xs:List V} (e:H a=some (.lst xs)):S4 K H (.ref a) (.type "list")
 |frz {a:Addr} {o:Obj} {xs:List V} (e:H a=some (.frz o (.lst xs))):S4 K H (.ref a) (.type "list")
 |tup {a:Addr} {xs:List V} (e:H a=some (.tup xs)):S4 K H (.ref a) (.type "tuple")
 |dK {a:Addr} {kvs:List (o3×V)} (e:H a=some (.dK kvs)):S4 K H (.ref a) (.type "dict")
 |dT {a:Addr} {kvs:List (List o3×V)} (e:H a=some (.dT kvs)):S4 K H (.ref a) (.type "dict")
 |ins {a C dx:Addr} {fs:List (Str×V)} (e:H a=some (.ins C dx fs)) (cl:Cls K C) (ha:PySem.W.findIn K (.ref C) "__class__"=some (some (.builtin "object.__class__")))
     (hn:PySem.W.specialIn K (.builtin "object.__class__") "__get__"=some (some (.builtin "getset_descriptor.__get__"))) (htk:PySem.W.takesIn K (.builtin "object.__class__")=some true)
     (hm:PySem.W.mroIn K C (.type "object")=some true):S4 K H (.ref a) (.ref C)
theorem ci1 {x:V}{u t:Value}(I:g9 X pins σ H s)(rx:p5 x u)(ty:S4 X.K H x t)(e:PySem.W.kitOne X.K t c=some b)(h:∀tk,Q (.bool b) {s with toks:=tk}):
   wpAny (model X.prog X.w) A (call (.builtin "isinstance") [u,c]) Q E s:=by
 cases ty with
 |non=>cases (show u=Value.none from rx);exact PySem.W.kia_one PySem.W.kitx_none I.kIn True.intro e (fun z=>nomatch z) h
 |bl y=>cases (show u=Value.bool y from rx);exact PySem.W.kia_one PySem.W.kitx_bool I.kIn True.intro e (fun z=>nomatch z) h
 |int i=>obtain ⟨t,q⟩:=(show ∃t,u=Value.int i t from rx);cases q;exact PySem.W.kia_one PySem.W.kitx_int I.kIn True.intro e (fun z=>nomatch z) h
 |str y=>obtain ⟨t,q⟩:=(show ∃t,u=Value.str y t from rx);cases q;exact PySem.W.kia_one PySem.W.kitx_str I.kIn True.intro e (fun z=>nomatch z) h
 |flt y=>obtain ⟨t,q⟩:=(show ∃t,u=Value.float y t from rx);cases q;exact PySem.W.kia_one PySem.W.kitx_float I.kIn True.intro e (fun z=>nomatch z) h
 |@lst a xs ea=>
  cases (show u=Value.ref a from rx);obtain ⟨_,_,n,_,h1⟩:=(show q9 X.prog X.w H s.heap a (.lst xs) from I.hok a _ ea);exact PySem.W.kia_one PySem.W.kitx_list I.kIn ⟨_,h1,rfl⟩ e (fun z=>nomatch z) h
 |@frz a ob xs ea=>
  cases (show u=Value.ref a from rx);obtain ⟨_,_,_,n,_,h1⟩:=(show q9 X.prog X.w H s.heap a (.frz ob (.lst xs)) from I.hok a _ ea);exact PySem.W.kia_one PySem.W.kitx_list I.kIn ⟨_,h1,rfl⟩ e (fun z=>nomatch z) h
 |@tup a xs ea=>
  cases (show u=Value.ref a from rx);obtain ⟨_,_,_,p⟩:=(show q9 X.prog X.w H s.heap a (.tup xs) from I.hok a _ ea);obtain ⟨o,h1,h2,_⟩:=p;exact PySem.W.kia_one PySem.W.kitx_tuple I.kIn ⟨o,h1,h2⟩ e (fun z=>nomatch z) h
 |@dK a kvs ea=>
  cases (show u=Value.ref a from rx);obtain ⟨_,_,vs,_,p⟩:=(show q9 X.prog X.w H s.heap a (.dK kvs) from I.hok a _ ea);obtain ⟨o,es,ep,h1,h2,_⟩:=p;exact PySem.W.kia_one PySem.W.kitx_dict I.kIn ⟨o,h1,h2.1⟩ e (fun z=>nomatch z) h
 |@dT a kvs ea=>
  cases (show u=Value.ref a from rx);obtain ⟨_,_,xs,_,o,es,ep,h1,h2,_⟩:=(show q9 X.prog X.w H s.heap a (.dT kvs) from I.hok a _ ea);exact PySem.W.kia_one PySem.W.kitx_dict I.kIn ⟨o,h1,h2.1⟩ e (fun z=>nomatch z) h
 |@ins a C dx fs ea cl ha hn htk hm=>
  cases (show u=Value.ref a from rx);obtain ⟨mA,O,_⟩:=cy4 I.hok ea;obtain ⟨od,J,_⟩:=O.look;exact PySem.W.kia_one (PySem.W.kitx_own (cl.get _) cl.hd ha hn htk hm) I.kIn J e (fun z=>nomatch z) h
end
end L2
namespace L2
open PySem PySem.Spec PyProof.Rows
structure l6 (k:Nat)(A:Around):Prop where
 hd:A.handled=none
 dp:A.depth+3*k+5 < recursionLimit
 un:A.units+16*k+200 < cLine
 gd:A.guards=some []
theorem l6.mono {j k:Nat}{A:Around}(r:l6 k A)(h:j<=k):l6 j A:=⟨r.hd,by have:=r.dp;omega,by have:=r.un;omega,r.gd⟩
theorem l6.deeper {k:Nat}{A:Around}(r:l6 (k+1) A)(env:Env):l6 k (A.deeper env):=
 ⟨r.hd,by have:=r.dp;show A.depth+1+3*k+5 < _;omega,by have:=r.un;show A.units+3+16*k+200 < _;omega,r.gd⟩
theorem l6.depth {k:Nat}{A:Around}(r:l6 k A):A.depth < recursionLimit:=by have:=r.dp;omega
theorem l6.units {k:Nat}{A:Around}(r:l6 k A):A.units+64 < cLine:=by have:=r.un;omega
def bn5:TA:=fun _ H Q=>Q [] H
def ay6 (ta:TE)(tr:TA):TA:=fun σ H Q=>ta σ H fun x H1=>tr σ H1 fun xs H2=>Q (x::xs) H2
section
variable {X:Cx} {e:Expr} {es:List Expr} {te:TE} {t:TA} {pos:Pos}
theorem c6:PA X [] bn5:=fun _ _ _ _ H Q I h=>Calls.spliced_nil ⟨[],H,I,.nil,h⟩
theorem c5 (ha:PE X e te)(hr:PA X es t)(hs:starEach (e::es) X.env=(false,eval e X.env)::starEach es X.env:=by rfl):PA X (e::es) (ay6 te t):=by
 intro pos pins s σ H Q I h;rw[hs];show wpAny _ _ (spliced ((false,eval e X.env)::backTo pos (starEach es X.env))) _ _ s;refine Calls.spliced_cons (p6 (ha pins s σ H _ I h) fun u s1 ⟨x,H1,I1,r1,q1⟩=> ?_)
 exact p6 (hr pos pins s1 σ H1 _ I1 q1) fun us s2 ⟨xs,H2,I2,r2,q2⟩=>⟨x::xs,H2,I2,.cons r1 r2,q2⟩
def dp5 (t:TA):TE:=fun σ H Q=>t σ H fun xs H1=>xs.length<=sizeLine/\∀p,H1 p=none->Q (.ref p) (c9 H1 p (.tup xs))
def dp6 (t:TA):TE:=fun σ H Q=>t σ H fun xs H1=>xs.length<=sizeLine/\∀p,H1 p=none->Q (.ref p) (c9 H1 p (.lst xs))
theorem an4 {x1}(h:PA X es t):PE X (.Tuple es x1 pos) (dp5 t):=by
 intro pins s σ H Q I hq;refine wpAny_Tuple_spliced (p6 (h pos pins s σ H _ I hq) fun us s1 ⟨xs,H1,I1,r,z,q⟩=>⟨by rw[<-r.length];exact z,?_⟩);have hf:H1 s1.heap.objs.size=none:=I1.hok.fresh (ds4 _);refine ⟨.ref s1.heap.objs.size,c9 H1 s1.heap.objs.size (.tup xs),I1.laid (t':=s1.toks) (fun b u e=>Heap.get?_push_of_some _ e) (ds4 _) ?_,rfl,q _ hf⟩;exact ⟨z,us,r,⟨_,Heap.get?_push_size _ rfl,rfl,_,rfl⟩⟩
theorem p8 (h:PA X es t):PE X (.List es pos) (dp6 t):=by
 intro pins s σ H Q I hq;refine wpAny_List_spliced (p6 (h pos pins s σ H _ I hq) fun us s1 ⟨xs,H1,I1,r,z,q⟩=>⟨by rw[<-r.length];exact z,?_⟩);have hf:H1 s1.heap.objs.size=none:=I1.hok.fresh (ds4 _);refine ⟨.ref s1.heap.objs.size,c9 H1 s1.heap.objs.size (.lst xs),I1.laid (t':=s1.toks) (fun b u e=>Heap.get?_push_of_some _ e) (ds4 _) ?_,rfl,q _ hf⟩;exact ⟨z,us,0,r,Heap.get?_push_size _ rfl⟩
end
abbrev Sp:=List V->Hp->VK->XK->Prop
abbrev CXT:=List Env->Hp->Shared->XK->Value->Shared->Prop
structure cc9 (P:Program)(w:World)(K:PySem.W.Frag)(mg:Str->Option Value)(base:Heap)(A:Around)(outer:List Env)(s:Shared)(H:Hp):Prop where
 frames:A.frames=some outer
 mod:Mod K mg base
 bs:∀b o,base.get? b=some o->s.heap.get? b=some o/\H b=none
 bsz:base.objs.size<=s.heap.objs.size
 funs:s.heap.FunFrames base outer
 frf:∀b∈frs outer,H b=none
 hok:E7 P w H s.heap
 bare:AllBare s.gens
def CE (outer:List Env)(P:Program)(w:World)(H:Hp)(s:Shared)(Q:VK)(u:Value)(s':Shared):Prop:=
 ∃v H',s'.os=s.os/\AllBare s'.gens/\Un (frs outer) [] H H' s.heap s'.heap/\E7 P w H' s'.heap/\p5 v u/\Q v H'
def CR (CX:CXT)(outer:List Env)(P:Program)(w:World)(H:Hp)(s:Shared)(Q:VK)(E:XK)(r:Result)(s':Shared):Prop:=
 match r with
 | .ok (.ret u)=>CE outer P w H s Q u s'
 | .ok _=>False
 | .error e=>CX outer H s E e s'
structure o7 (P:Program)(w:World)(K:PySem.W.Frag)(mg:Str->Option Value)(base:Heap)(CX:CXT)(k:Nat)(f:Addr)(fd:FuncData)(ps:List Str)(sp:Sp):Prop where
 len:∀vs H Q E,sp vs H Q E->vs.length=ps.length
 run:∀(A:Around) (outer:List Env) (s:Shared) (H:Hp) (args:Args) (us:List Value) (vs:List V) (Q:VK) (E:XK),l6 k A->cc9 P w K mg base A outer s H->BindsTo s fd args (ps.zip us)->m8 vs us->sp vs H Q E->
   codeAny (model P w) A (.call (.ref f) args) (CR CX outer P w H s Q E) s
theorem o7.imp {P:Program}{w:World}{K:PySem.W.Frag}{mg:Str->Option Value}{base:Heap}{CX:CXT}{k:Nat}{f:Addr}{fd:FuncData}{ps:List Str}{sp sp':Sp}(F:o7 P w K mg base CX k f fd ps sp)
   (h:∀vs H Q E,sp' vs H Q E->sp vs H Q E):o7 P w K mg base CX k f fd ps sp':=
 ⟨fun vs H Q E q=>F.len vs H Q E (h _ _ _ _ q),fun A outer s H args us vs Q E hr he hb hv hs=>F.run A outer s H args us vs Q E hr he hb hv (h _ _ _ _ hs)⟩
section
variable {X:Cx} {pins:List (Addr×Obj)} {σ:St} {H:Hp} {s s':Shared}
theorem g9.env0 (I:g9 X pins σ H s):cc9 X.prog X.w X.K X.mg X.base X.A X.stack s H:=
 ⟨I.ok.frames,I.ok.mod,I.bs,dt6 I.ok.bsz I.sz,I.stack,I.stkFree,I.hok,I.bare⟩
theorem g9.after {Q:VK}{u:Value}(I:g9 X pins σ H s)(h:CE X.stack X.prog X.w H s Q u s'):EP X pins σ Q u s':=by
 obtain ⟨v,H',os,bare,un,hok,r,q⟩:=h;obtain ⟨hh,g,d,t,os'⟩:=s';obtain rfl:os'=s.os:=os;exact ⟨v,H',I.call (h':=hh) (g':=g) (d':=d) (t':=t) (ch:=[]) un hok bare (fun b z=>absurd z (by simp)),r,q⟩
end
def cw5 (sp:Sp)(dvs:List V)(E:XK)(t:TA):TE:=fun σ H Q=>t σ H fun vs H1=>sp (vs++dvs) H1 Q E
def aj7 (K:PySem.W.Frag)(fd:FuncData)(ps:List Str)(ds:List Value):Prop:=
 ∀(s:Shared) (us:List Value),K.In s.heap->(us++ds).length=ps.length->BindsTo s fd ⟨us,[]⟩ (ps.zip (us++ds))
theorem aj7.all {K:PySem.W.Frag}{fd:FuncData}{ps:List Str}(h:∀us:List Value,us.length=ps.length->bindArgs fd ⟨us,[]⟩=pure (ps.zip us)):aj7 K fd ps []:=fun s us _ hl=>by
 rw[du8] at hl ⊢;exact .of_eq (h us hl)
def bn6 (CX:CXT)(X:Cx)(E:XK):Prop:=∀(pins:List (Addr×Obj)) (σ:St) (H:Hp) (s:Shared) (e:Value) (s':Shared),g9 X pins σ H s->CX X.stack H s E e s'->X.xe e s'
section
variable {X:Cx} {CX:CXT} {k:Nat} {f C:Addr} {fd:FuncData} {ps:List Str} {sp:Sp} {dvs:List V} {ds:List Value} {E:XK} {x m:Str} {p pos apos:Pos} {e o:Expr} {es:List Expr} {ta:TE} {t:TA}
theorem de9 {pins:List (Addr×Obj)}{σ:St}{H:Hp}{s:Shared}{Q:VK}{us:List Value}{vs:List V}(F:o7 X.prog X.w X.K X.mg X.base CX k f fd ps sp)(hr:l6 k X.A)(hb:aj7 X.K fd ps ds)(hd:m8 dvs ds)(hx:bn6 CX X E)
   (I:g9 X pins σ H s) (r:m8 vs us) (h:sp (vs++dvs) H Q E):wpAny (model X.prog X.w) X.A (call (.ref f) us) (EP X pins σ Q) X.xe s:=by
 have r2:m8 (vs++dvs) (us++ds):=r.append hd
 have hl:(us++ds).length=ps.length:=by rw[<-r2.length];exact F.len _ _ _ _ h
 refine wpAny_call (codeAny_mono (F.run X.A X.stack s H ⟨us,[]⟩ (us++ds) (vs++dvs) Q E hr I.env0 (hb s us I.kIn hl) r2 h) fun r s' hq=> ?_)
 cases r with
 |error e=>exact hx pins σ H s e s' I hq
 |ok fl=>
  cases fl with
  |ret u=>exact I.after hq
  |next=>exact False.elim hq
  |brk=>exact False.elim hq
  |cont=>exact False.elim hq
theorem cy5 (F:o7 X.prog X.w X.K X.mg X.base CX k f fd ps sp)(hr:l6 k X.A)(hg:Gl X x)(hm:X.mg x=some (.ref f))(hk:PySem.W.keepIn X.K (.ref f)=true)(hb:aj7 X.K fd ps ds)(hd:m8 dvs ds)(hx:bn6 CX X E)
   (ha:PA X (e::es) t) (hdb:(x==("__debug__":Str))=false:=by decide) (he:starEach (e::es) X.env=(false,eval e X.env)::starEach es X.env:=by rfl) (hpl:(backTo pos (starEach es X.env)).any (·.1)=false:=by rfl):
   PE X (.Call (.Name x p) (e::es) [] pos) (cw5 sp dvs E t):=by
 intro pins s σ H Q I h;refine wpAny_Call_Name_kw (bx8 I hg hm ?_ hdb);refine PySem.W.callWith_K (h₀:=X.base) I.ok.mod.kin hk (p6 (ha pos pins s σ H _ I h) fun us s1 ⟨vs,H1,I1,r,q⟩=>⟨I1.kIn,?_⟩) he hpl;exact de9 F hr hb hd hx I1 r q
end
def PK (X:Cx)(kws:List Keyword)(t:TA):Prop:=
 ∀(pos:Pos) (pins:List (Addr×Obj)) (s:Shared) (σ:St) (H:Hp) (Q:List V->Hp->Prop),g9 X pins σ H s->t σ H Q->wpAny (model X.prog X.w) X.A (evalAll ((backToKw pos (keywordEach kws X.env)).map (·.2))) (AP X pins σ Q) X.xe s
section
variable {X:Cx} {CX:CXT} {k:Nat} {f C:Addr} {fd:FuncData} {ps ks:List Str} {sp:Sp} {E:XK} {x m:Str} {p pos apos kpos:Pos} {e o:Expr} {es:List Expr} {kws:List Keyword} {te ta:TE} {t tk:TA} {nm:Option Str}
theorem df0:PK X [] bn5:=fun _ _ _ _ H Q I h=>wpAny_evalAll_nil ⟨[],H,I,.nil,h⟩
theorem cy6 (ha:PE X e te)(hr:PK X kws t):PK X (⟨nm,e,kpos⟩::kws) (ay6 te t):=by
 intro pos pins s σ H Q I h;show wpAny _ _ (evalAll ((do let v <-eval e X.env;standAt pos;pure v)::(backToKw pos (keywordEach kws X.env)).map (·.2))) _ _ s;refine wpAny_evalAll_cons (wpAny_bind (p6 (ha pins s σ H _ I h) fun u s1 ⟨x,H1,I1,r1,q1⟩=>wpAny_bind (wpAny_standAt (wpAny_pure ?_))))
 exact p6 (hr pos pins s1 σ H1 _ I1 q1) fun us s2 ⟨xs,H2,I2,r2,q2⟩=>⟨x::xs,H2,I2,.cons r1 r2,q2⟩
variable {g:List Value->List Value->List Value} {gV:List V->List V->List V}
end
structure l8 (N P:List Str)(sc:Scope):Prop where
 kind:sc.kind= .function
 co:sc.isCoroutine=false
 gen:sc.isGenerator=false
 nd:N.Nodup
 pre:N.take P.length=P
 par:∀x∈P,sc.names.lookup x=some .local\/sc.names.lookup x=some .cell
 nofree:∀y∈sc.names,y.2≠.free
theorem bh4 {kindOf:Str->Option NameKind}{x:Str}:∀{binds:List (Str×Value)} {m:Str->Option Value},(∀v,(x,v)∉binds)->bindL kindOf binds m x=m x
 |[],_,_=>rfl
 |(n,v)::r,m,h=>by
  unfold bindL;rw[bh4 fun w hw=>h w (ds6 _ hw)]
  split
  · have:x≠n:=by rintro rfl;exact h v ds5
    simp [this]
  · rfl
theorem bh5 {kindOf:Str->Option NameKind}{x:Str}:∀{binds:List (Str×Value)} {m:Str->Option Value},(∀v,(x,v)∉binds)->bindC kindOf binds m x=m x
 |[],_,_=>rfl
 |(n,v)::r,m,h=>by
  unfold bindC;rw[bh5 fun w hw=>h w (ds6 _ hw)]
  split
  · rfl
  · have:x≠n:=by rintro rfl;exact h v ds5
    simp [this]
theorem bh6 {kindOf:Str->Option NameKind}{x:Str}{v:Value}:∀{P:List Str} {vs:List Value} {i:Nat} {m:Str->Option Value},P.Nodup->P[i]? =some x->vs[i]? =some v->kindOf x=some .local->
   bindL kindOf (P.zip vs) m x=some v
 |[],_,_,_,_,h,_,_=>by simp at h
 |_::_,[],_,_,_,_,h,_=>by simp at h
 |p::P,w::vs,0,m,nd,h1,h2,hk=>by
  simp at h1 h2;subst h1;subst h2;show bindL kindOf ((p,w)::P.zip vs) m p=_;unfold bindL;rw[bh4 fun v hv=>(dw4.mp nd).1 (en6 hv).1,if_pos hk];simp
 |p::P,w::vs,i+1,m,nd,h1,h2,hk=>by
  show bindL kindOf ((p,w)::P.zip vs) m x=_;unfold bindL;exact bh6 (i:=i) (dw4.mp nd).2 (by simpa using h1) (by simpa using h2) hk
theorem bh7 {kindOf:Str->Option NameKind}{x:Str}{v:Value}:∀{P:List Str} {vs:List Value} {i:Nat} {m:Str->Option Value},P.Nodup->P[i]? =some x->vs[i]? =some v->kindOf x≠some .local->
   bindC kindOf (P.zip vs) m x=some v
 |[],_,_,_,_,h,_,_=>by simp at h
 |_::_,[],_,_,_,_,h,_=>by simp at h
 |p::P,w::vs,0,m,nd,h1,h2,hk=>by
  simp at h1 h2;subst h1;subst h2;show bindC kindOf ((p,w)::P.zip vs) m p=_;unfold bindC;rw[bh5 fun v hv=>(dw4.mp nd).1 (en6 hv).1,if_neg hk];simp
 |p::P,w::vs,i+1,m,nd,h1,h2,hk=>by
  show bindC kindOf ((p,w)::P.zip vs) m x=_;unfold bindC;exact bh7 (i:=i) (dw4.mp nd).2 (by simpa using h1) (by simpa using h2) hk
def aa3 (N:List Str)(vs:List V):St:=vs.map some++dw8 (N.length - vs.length) none
def bd2 (CX:CXT)(P:Program)(w:World)(K:PySem.W.Frag)(mg:Str->Option Value)(base:Heap)(N:List Str)(qual:Str)(scope:Scope)(f:Addr)(cd:Value)(A:Around)(outer:List Env)(s:Shared)(H:Hp)(E:XK):Cx where
 prog:=P
 w:=w
 K:=K
 mg:=mg
 base:=base
 A:=A.deeper (envOfC qual scope s.heap.objs.size f cd)
 N:=N
 s₀:=s
 H₀:=H
 env:=envOfC qual scope s.heap.objs.size f cd
 outer:=outer
 stack:=envOfC qual scope s.heap.objs.size f cd::outer
 ex:=[]
 calm:=true
 fn:=fun _=>true
 pn:=[]
 xe:=fun e s'=>wpAny (model P w) (A.deeper (envOfC qual scope s.heap.objs.size f cd)) (leaving (envOfC qual scope s.heap.objs.size f cd) e) (fun _ s''=>CX outer H s E e s'') (fun e' s''=>CX outer H s E e' s'') s'
theorem bn7 {sc:Scope}{n:Nat}{x:Str}(h:sc.names.lookup x=some .cell):∃c,(cellsFrom n sc.names []).lookup x=some c:=by
 have q:=PySem.W.cellsFrom_some sc.names n [] (.inl h);exact Option.isSome_iff_exists.mp q
theorem ci2 {CX:CXT}{P:Program}{w:World}{K:PySem.W.Frag}{mg:Str->Option Value}{base:Heap}{N ps:List Str}{qual:Str}{scope:Scope}{f:Addr}{cd:Value}{A:Around}{outer:List Env}{s s1:Shared}{H:Hp}{E:XK}{us:List Value}{vs:List V}
   (S:l8 N ps scope) (hd:A.handled=none) (e0:cc9 P w K mg base A outer s H) (hl:vs.length=ps.length) (r:m8 vs us)
   (x:InCallC s s.heap.objs.size (bindL (envOfC qual scope s.heap.objs.size f cd).kindOf (ps.zip us) fun _=>none) (cellsFrom (s.heap.objs.size+1) scope.names []) (bindC (envOfC qual scope s.heap.objs.size f cd).kindOf (ps.zip us) fun _=>none) s1):
   g9 (bd2 CX P w K mg base N qual scope f cd A outer s H E) [] (aa3 N vs) H s1:=by
 have hpl:ps.length<=N.length:=by have:=congrArg ef7 S.pre;rw[du1] at this;omega
 obtain ⟨h1,tk,rfl,hk⟩:=x.done
 have noA:∀b:Addr,b∉(bd2 CX P w K mg base N qual scope f cd A outer s H E).ex:=fun b z=>absurd (show b∈([]:List Addr) from z) (by simp)
 refine ⟨⟨e0.mod,S.kind,rfl,rfl,ds4 _,fun y z c h1 h2=> ?_,fun y hy=> ?_,fun y c _ h=> ?_,fun _=>hd,Around.frames_deeper e0.frames,.inr ⟨rfl,rfl⟩,fun b z=>absurd z (noA b),e0.bs,e0.bsz,fun b _ _=>noA b,fun b z=>absurd z (noA b),e0.funs,e0.frf⟩,
   rfl,e0.bare,Un.kept hk,⟨_,x.toInCall.ns,fun i y v h1 h2 h3=> ?_⟩,fun y c h=>⟨_,x.cell y c h⟩,e0.hok.fresh (ds4 _),fun y c h=> ?_,fun p hp=>absurd (show p∈([]:List (Addr×Obj)) from hp) (by simp),e0.hok.kept hk,?_⟩
 · exact name_of_addr x.apart (PySem.mem_of_lookup h1) (PySem.mem_of_lookup h2)
 · have hy:scope.names.lookup y=some .cell\/scope.names.lookup y=some .free:=hy
   rcases hy with hy|hy
   · exact bn7 hy
   · exact absurd rfl (S.nofree _ (PySem.mem_of_lookup hy))
 · exact dz1 (x.above y c (PySem.mem_of_lookup h))
 · have hi:i < vs.length:=by
     unfold aa3 at h2
     by_cases hi:i < vs.length
     · exact hi
     · rw[dw7 (by simpa using hi)] at h2;rw[en3] at h2
       split at h2<;>cases h2
   have ha:vs[i]? =some v:=by
     unfold aa3 at h2;rw[dv8 (by simpa using hi),ds9] at h2
     cases e:vs[i]? with
     |none=>rw[e] at h2;cases h2
     |some a=>rw[e] at h2;cases h2;rfl
   obtain ⟨u,hu,rv⟩:=r.get ha
   have hp:ps[i]? =some y:=by
     rw[<-S.pre,dz8 (by omega)];exact h1
   have ndP:ps.Nodup:=by rw[<-S.pre];exact S.nd.sublist (List.take_sublist _ _)
   refine ⟨u,rv,?_⟩
   rcases S.par y (dt2 hp) with k|k
   · exact .inl ⟨k,bh6 ndP hp hu k⟩
   · obtain ⟨c,e⟩:=bn7 (n:=s.heap.objs.size+1) k;refine .inr ⟨.inl k,c,e,?_⟩;have q:=x.cell y c e;rw[bh7 ndP hp hu (by show scope.names.lookup y≠_;rw[k];decide)] at q;exact q
 · exact e0.hok.fresh (dz1 (x.above y c (PySem.mem_of_lookup h)))
 · unfold aa3;show _=N.length;rw[ds8,ds1,ee3];omega
theorem dk6 {CX:CXT}{P:Program}{w:World}{K:PySem.W.Frag}{mg:Str->Option Value}{base:Heap}{k:Nat}{f:Addr}{name qual:Str}{params:Arguments}{body:List Stmt}{scope:Scope}{dV kV doc pm cdv ct oc:Value}{an od:Option Addr}
   {osl:Array (Option Value)} {N ps:List Str} {sp:Sp} (lk:K.lookup f=some ⟨oc,od,.func (PySem.W.fnOf name qual params body scope dV kV doc pm an cdv ct),osl⟩) (hcd:PySem.W.codeIn K cdv qual=true) (S:l8 N ps scope)
   (len:∀vs H Q E,sp vs H Q E->vs.length=ps.length)
   (hbody:∀(A:Around) (outer:List Env) (s:Shared) (H:Hp) (vs:List V) (Q:VK) (E:XK),l6 k (A.deeper (envOfC qual scope s.heap.objs.size f cdv))->sp vs H Q E->
     ∃t,X5 (bd2 CX P w K mg base N qual scope f cdv A outer s H E) body t/\t {nx:=fun _ H'=>Q .non H',rt:=Q} (aa3 N vs) H):
   o7 P w K mg base CX (k+1) f (PySem.W.fnOf name qual params body scope dV kV doc pm an cdv ct) ps sp:=by
 refine ⟨len,fun A outer s H args us vs Q E hr e0 hb r hsp=> ?_⟩;have hl:=len _ _ _ _ hsp
 have KX:K.In s.heap:=e0.mod.kin.keeps fun b o e=>(e0.bs b o e).1
 have lim:s.heap.NoLimit:=e0.mod.nolimit.keeps fun b o e=>(e0.bs b o e).1
 have hkind:∀y∈ps.zip us,scope.names.lookup y.1=some .local\/(scope.names.lookup y.1=some .cell/\((cellsFrom (s.heap.objs.size+1) scope.names []).lookup y.1).isSome=true):=fun ⟨n,v⟩ hy=>by
   rcases S.par n (en6 hy).1 with q|q
   · exact .inl q
   · exact .inr ⟨q,PySem.W.cellsFrom_some _ _ _ (.inl q)⟩
 refine codeAny_call_function hr.depth (KX _ _ lk) rfl S.co S.gen rfl (PySem.W.codeRec_of KX hcd) (hb _ _ _ _ ?_)
 refine wpAny_newFunctionEnv_cells S.kind hkind fun env he s1 x=> ?_
 subst he;refine ⟨lim.keeps x.toInCall.keep,codeAny_func ?_⟩;obtain ⟨t,ht,hq⟩:=hbody A outer s H vs Q E (hr.deeper _) hsp;have I:g9 (bd2 CX P w K mg base N qual scope f cdv A outer s H E) [] (aa3 N vs) H s1:=ci2 S hr.hd e0 hl r x
 refine wpAny_mono (ht [] s1 (aa3 N vs) H _ I hq) (fun fl s' hs=> ?_) fun e s' hs=>hs
 have fin:∀{σ':St} {H':Hp} {v:V} {u:Value},g9 (bd2 CX P w K mg base N qual scope f cdv A outer s H E) [] σ' H' s'->p5 v u->Q v H'->CE outer P w H s Q u s':=
   fun {σ' H' v u} J rv q=>⟨v,H',J.os,J.bare,J.base,J.hok,rv,q⟩
 cases fl with
 |ret u=>
  obtain ⟨v,σ',H',J,rv,q⟩:=hs;exact fin J rv q
 |next=>
  obtain ⟨σ',H',J,q⟩:=hs;exact fin (v:=V.non) (u:=Value.none) J rfl q
 |brk=>
  obtain ⟨_,_,_,q⟩:=hs;exact False.elim q
 |cont=>
  obtain ⟨_,_,_,q⟩:=hs;exact False.elim q
end L2
namespace L2
open PySem PySem.Spec PyProof.Rows
section
variable {X:Cx} {x:Str} {p pos:Pos} {e:Expr} {es:List Expr} {t:TA} {id T:String} {r:List V->Hp->VK->Prop}
def X8 (r:List V->Hp->VK->Prop)(t:TA):TE:=fun σ H Q=>t σ H fun vs H1=>r vs H1 Q
theorem O2 (hc:K9 X (.builtin id) r)(hg:Gl X x)(hm:X.mg x=none)(hv:bootBuiltins x=some (.builtin id))(ha:PA X (e::es) t)(hn:x≠"__name__":=by decide)(hdb:(x==("__debug__":Str))=false:=by decide)
   (he:starEach (e::es) X.env=(false,eval e X.env)::starEach es X.env:=by rfl) (hpl:(backTo pos (starEach es X.env)).any (·.1)=false:=by rfl):PE X (.Call (.Name x p) (e::es) [] pos) (X8 r t):=by
 intro pins s σ H Q I h;refine wpAny_Call_Name_kw (X6 I hg hm hv ?_ hn hdb);exact PyProof.Rows.callWith_builtin1 (p6 (ha pos pins s σ H _ I h) fun us s1 ⟨vs,H1,I1,r1,q1⟩=>hc pins s1 σ H1 vs us Q I1 r1 q1) he hpl
theorem M4 (hc:K9 X (.type T) r)(hg:Gl X x)(hm:X.mg x=none)(hv:bootBuiltins x=some (.type T))(ha:PA X (e::es) t)(hn:x≠"__name__":=by decide)(hdb:(x==("__debug__":Str))=false:=by decide)
   (he:starEach (e::es) X.env=(false,eval e X.env)::starEach es X.env:=by rfl) (hpl:(backTo pos (starEach es X.env)).any (·.1)=false:=by rfl):PE X (.Call (.Name x p) (e::es) [] pos) (X8 r t):=by
 intro pins s σ H Q I h;refine wpAny_Call_Name_kw (X6 I hg hm hv ?_ hn hdb);exact PyProof.Rows.callWith_type1 (p6 (ha pos pins s σ H _ I h) fun us s1 ⟨vs,H1,I1,r1,q1⟩=>hc pins s1 σ H1 vs us Q I1 r1 q1) he hpl
end
end L2
namespace HT
open PySem PyProof.Rows
def aq4:List Int->List Int->Bool
 |[],[]=>false
 |[],_::_=>true
 |_::_,[]=>false
 |x::xs,y::ys=>if x=y then aq4 xs ys else decide (x < y)
theorem cd0 (x y:Int)(xs ys:List Int):aq4 (x::xs) (y::ys)=if x=y then aq4 xs ys else decide (x < y):=rfl
theorem cy7 (y:Int)(ys:List Int):aq4 [] (y::ys)=true:=rfl
theorem cp6 (A:Around)(s:Shared)(a:Int)(t:Tok)(c:Int)(u:Tok):∃e,SeqAt.EqAt A s (.int a t) (.int c u) e/\(e=true↔a=c):=
 ⟨(a==c),SeqAt.EqAt.int_int a t c u,by simp⟩
theorem cp7 (A:Around)(s:Shared)(a:Int)(t:Tok)(c:Int)(u:Tok)(prog:Program)(w:World)(E:Value->Shared->Prop)(Q:Value->Shared->Prop)(h:Q (.bool (decide (a < c))) s):
   wpAny (model prog w) A (richCompare .Lt (.int a t) (.int c u)) Q E s:=
 (PyProof.Rows.lt_int h:wpAny (model prog w) A (compareOp .Lt (.int a t) (.int c u)) Q E s)
section
variable {prog:Program} {w:World} {A:Around} {E:Value->Shared->Prop} {s:Shared}
def sIx (n d:Nat):Option Int->Nat
 |none=>d
 |some v=>if v < 0 then (v+(n:Int)).toNat else min v.toNat n
theorem dp7 (n d:Nat):sIx n d none=d:=rfl
theorem dq7 (n d k:Nat):sIx n d (some (k:Int))=min k n:=by
 show (if (k:Int) < 0 then ((k:Int)+(n:Int)).toNat else min (k:Int).toNat n)=min k n;rw[if_neg (by omega),dx5]
end
end HT
namespace L2
open PySem PySem.Spec PyProof.Rows
abbrev TO:=St->Hp->(Option Int->Hp->Prop)->Prop
def PO (X:Cx)(e:Option Expr)(t:TO):Prop:=
 ∀(pins:List (Addr×Obj)) (s:Shared) (σ:St) (H:Hp) (Q:Option Int->Hp->Prop),g9 X pins σ H s->t σ H Q->
  wpAny (model X.prog X.w) X.A (evalPart e X.env) (fun u s'=>∃o H',g9 X pins σ H' s'/\IsPart u o/\Q o H') X.xe s
def cy8:TO:=fun _ H Q=>Q none H
def dk7 (t:TE):TO:=fun σ H Q=>t σ H fun x H1=>∃i,x= .int i/\Q (some i) H1
theorem aj8 {ns:List Int}:∀{us:List Value},m8 (ns.map V.int) us->IntsAre us ns:=by
 induction ns with
 |nil=>intro us r;rw[ee7] at r;cases r;exact .nil
 |cons n ns ih=>
  intro us r;rw[du9] at r
  cases r with
  |cons r1 r2=>
   obtain ⟨t,e⟩:=r1;subst e;exact .cons n t (ih r2)
section
variable {X:Cx} {e:Expr} {te:TE} {lo hi:Option Expr} {tl th:TO} {pos p2:Pos}
theorem ah8:PO X none cy8:=by
 intro pins s σ H Q I h;rw[evalPart_none];exact wpAny_pure ⟨none,H,I,.none,h⟩
theorem V9 (h:PE X e te):PO X (some e) (dk7 te):=by
 intro pins s σ H Q I hw;rw[evalPart_some]
 refine p6 (h pins s σ H _ I hw) fun u s1 ⟨x,H1,I1,r1,q1⟩=> ?_
 obtain ⟨i,rfl,q⟩:=q1;obtain ⟨t,rfl⟩:=r1;exact ⟨some i,H1,I1,.int i t,q⟩
def SlR (X:Cx)(r:V->Option Int->Option Int->Hp->VK->Prop):Prop:=
 ∀(pins:List (Addr×Obj)) (s:Shared) (σ:St) (H:Hp) (x:V) (v vl vu:Value) (lo hi:Option Int) (sl:Addr) (Q:VK),g9 X pins σ H s->p5 x v->s.heap.IsSliceOf sl vl vu .none->IsPart vl lo->IsPart vu hi->r x lo hi H Q->
  ∃T id,typeLookup (.type T) "__getitem__"=pure (some (.builtin id))/\s.TypeIs v T/\wpAny (model X.prog X.w) X.A (getItem v (.ref sl)) (EP X pins σ Q) X.xe s
def tSl (r:V->Option Int->Option Int->Hp->VK->Prop)(te:TE)(tl th:TO):TE:=fun σ H Q=>te σ H fun x H1=>tl σ H1 fun l H2=>th σ H2 fun u H3=>r x l u H3 Q
theorem W0 {r:V->Option Int->Option Int->Hp->VK->Prop}(hr:SlR X r)(he:PE X e te)(hl:PO X lo tl)(hu:PO X hi th):PE X (.Subscript e (.Slice lo hi none p2) pos) (tSl r te tl th):=by
 intro pins s σ H Q I h;refine Subscript_ (p6 (he pins s σ H _ I h) fun v s1 ⟨x,H1,I1,r1,q1⟩=> ?_);refine wpAny_Slice (p6 (hl pins s1 σ H1 _ I1 q1) fun vl s2 ⟨l,H2,I2,pl,q2⟩=>p6 (hu pins s2 σ H2 _ I2 q2) fun vu s3 ⟨u,H3,I3,pu,q3⟩=> ?_);rw[evalPart_none];refine wpAny_pure ?_
 have I4:g9 X pins σ H3 {s3 with heap:=s3.heap.push {cls:= .type "slice",data:= .fields #[vl,vu,.none]}}:=I3.kept (t':=s3.toks) fun b ob q=>Heap.get?_push_of_some _ q
 obtain ⟨T,id,hT,ht,hg⟩:=hr pins {s3 with heap:=s3.heap.push {cls:= .type "slice",data:= .fields #[vl,vu,.none]}} σ H3 x v vl vu l u s3.heap.objs.size Q I4 r1 (Heap.IsSliceOf.new ..) pl pu q3;show wpAny (model X.prog X.w) X.A (subscriptTail e (.Slice lo hi none p2) v (.ref s3.heap.objs.size)) (EP X pins σ Q) X.xe {s3 with heap:=s3.heap.push {cls:= .type "slice",data:= .fields #[vl,vu,.none]}};exact tail_any (ops:=[.ref s3.heap.objs.size,v]) ht hT hg (by with_unfolding_all rfl)
def Y7 (xs:List V)(lo hi:Option Int):List V:=(xs.drop (HT.sIx xs.length 0 lo)).take (HT.sIx xs.length xs.length hi - HT.sIx xs.length 0 lo)
theorem bw0 (xs:List V)(lo hi:Option Int):(Y7 xs lo hi).length<=xs.length:=by
 unfold Y7;rw[du1,dx1];omega
end
end L2
namespace L2
open PySem PySem.Spec PyProof.Rows
def ixN (n:Nat)(i:Int):Option Nat:=if 0<=i then (if i < n then some i.toNat else none) else if -(n:Int)<=i then some (i+n).toNat else none
def atI {α:Type}(xs:List α)(i:Int):Option α:=(ixN xs.length i).bind fun j=>xs[j]?
theorem bd3 {n:Nat}{i:Int}{j:Nat}(h:ixN n i=some j):seqIndex? i n=some j/\j < n/\ -(n:Int)<=i/\i < n:=by
 unfold ixN at h
 by_cases h0:0<=i
 · rw[if_pos h0] at h
   by_cases h1:i < n
   · rw[if_pos h1] at h;have e:i.toNat=j:=Option.some.inj h;exact ⟨by rw[seqIndex_of h0 h1,e],by omega,by omega,h1⟩
   · rw[if_neg h1] at h;cases h
 · rw[if_neg h0] at h
   by_cases h1: -(n:Int)<=i
   · rw[if_pos h1] at h;have e:(i+n).toNat=j:=Option.some.inj h;exact ⟨by rw[seqIndex_neg (by omega) h1,e],by omega,h1,by omega⟩
   · rw[if_neg h1] at h;cases h
theorem by4 {α:Type}{xs:List α}{i:Int}{v:α}(h:atI xs i=some v):∃j,seqIndex? i xs.length=some j/\xs[j]? =some v/\j < xs.length/\ -(xs.length:Int)<=i/\i < xs.length:=by
 unfold atI at h
 cases e:ixN xs.length i with
 |none=>rw[e] at h;cases h
 |some j=>
  rw[e] at h;obtain ⟨h1,h2,h3,h4⟩:=bd3 e;exact ⟨j,h1,h,h2,h3,h4⟩
theorem K1 {α:Type}{xs:List α}{j:Nat}{v:α}(h:xs[j]? =some v):atI xs (j:Int)=some v:=by
 have hj:j < xs.length:=(ds3.mp h).1
 have e:ixN xs.length (j:Int)=some j:=by
   unfold ixN;rw[if_pos (by omega),if_pos (by omega)];simp
 unfold atI;rw[e];exact h
def cy9 (b:Expr):Prop:=∀o i,subscripted b false o i=operate [o,i] (getItem o i)
def IxR (X:Cx)(r:R2):Prop:=
 ∀(value slice:Expr) (pins:List (Addr×Obj)) (s:Shared) (σ:St) (H:Hp) (x y:V) (v u:Value) (Q:VK),g9 X pins σ H s->p5 x v->p5 y u->r x y H Q->
  subscripted slice false v u=operate [v,u] (getItem v u)->wpAny (model X.prog X.w) X.A (subscriptTail value slice v u) (EP X pins σ Q) X.xe s
def MtR (X:Cx)(id:String)(r:V->List V->Hp->VK->Prop):Prop:=
 ∀(pins:List (Addr×Obj)) (s:Shared) (σ:St) (H:Hp) (x:V) (xs:List V) (v:Value) (us:List Value) (Q:VK),g9 X pins σ H s->p5 x v->m8 xs us->r x xs H Q->
  wpAny (model X.prog X.w) X.A (call (.builtin id) (v::us)) (EP X pins σ Q) X.xe s
section
variable {X:Cx} {a b:Expr} {ta tb:TE} {pos:Pos}
theorem G9 {r:R2}(hr:IxR X r)(ha:PE X a ta)(hb:PE X b tb)(hs:cy9 b):PE X (.Subscript a b pos) (tOp r ta tb):=by
 intro pins s σ H Q I h;exact Subscript_ (cp3 ha hb I h fun v u s2 x y H2 I2 rx ry q=>hr a b pins s2 σ H2 x y v u Q I2 rx ry q (hs _ _))
def df2 (K:PySem.W.Frag):R2:=fun x y H Q=>∃p xs i v,x= .ref p/\y= .int i/\i5 K H p xs/\atI xs i=some v/\Q v H
def df3 (K:PySem.W.Frag):R2:=fun x y H Q=>∃p xs i v,x= .ref p/\y= .int i/\T2 K H p xs/\atI xs i=some v/\Q v H
theorem C1:IxR X (df2 X.K):=by
 intro value slice pins s σ H x y v u Q I rx ry h hs;obtain ⟨p,xs,i,z,rfl,rfl,hq,he,q⟩:=h;cases rx;obtain ⟨t,rfl⟩:=ry;obtain ⟨its,r,pl,hz⟩:=I.list hq;obtain ⟨j,h1,h2,h3,h4,h5⟩:=by4 he;obtain ⟨w,ew,rw'⟩:=r.get h2;have hl:=r.length;have hn:=ay5;have fin:EP X pins σ Q w s:=⟨z,H,I,rw',q⟩
 by_cases h0:0<=i
 · have hj:i.toNat=j:=by
     rw[seqIndex_of h0 h5] at h1;exact Option.some.inj h1
   exact item_listR pl.isList h0 (by omega) (by rw[hj];simpa using ew) fin hs
 · have hj:(i+(its.toArray.size:Int)).toNat=j:=by
     rw[seqIndex_neg (by omega) h4] at h1;rw[dt8,<-hl];exact Option.some.inj h1
   exact subscriptTail_builtinR (x:=w) pl.isList.typeIs slot_list_getitem.lookup
     (wpAny_getItem_list_neg (Q:=fun r s'=>r=w/\EP X pins σ Q r s') pl.isList (by omega) (by rw[dt8]<;>omega) (by omega) (by rw[hj];simpa using ew) ⟨rfl,fin⟩) hs
theorem df4:IxR X (df3 X.K):=by
 intro value slice pins s σ H x y v u Q I rx ry h hs;obtain ⟨p,xs,i,z,rfl,rfl,hq,he,q⟩:=h;cases rx;obtain ⟨t,rfl⟩:=ry;obtain ⟨its,r,pl,hz⟩:=I.tuple hq;obtain ⟨j,h1,h2,h3,h4,h5⟩:=by4 he;obtain ⟨w,ew,rw'⟩:=r.get h2;have hl:=r.length;have hn:=ay5;have fin:EP X pins σ Q w s:=⟨z,H,I,rw',q⟩
 exact subscriptTail_builtinR (x:=w) pl.typeIs slot_tuple_getitem.lookup
   (getItem_tuple (j:=j) (Q:=fun r s'=>r=w/\EP X pins σ Q r s') pl (by omega) (by omega) (by rw[dt8,<-hl];exact h1) (by simpa using ew) ⟨rfl,fin⟩) hs
theorem cd1 (its:List Value)(n j:Nat)(u:Value):Obj.mapSeq (·.setIfInBounds j u) {cls:= .type "list",data:= .seq its.toArray n}={cls:= .type "list",data:= .seq (its.set j u).toArray n}:=by
 simp [Obj.mapSeq]
theorem g9.lst {pins:List (Addr×Obj)}{σ:St}{H:Hp}{s:Shared}{p:Addr}{xs:List V}(I:g9 X pins σ H s)(h:H p=some (.lst xs)):
   ∃(its:List Value) (n:Nat),m8 xs its/\s.heap.get? p=some {cls:= .type "list",data:= .seq its.toArray n}/\xs.length<=sizeLine:=by
 obtain ⟨z,its,n,r,e⟩:=I.hok p _ h;exact ⟨its,n,r,e,z⟩
theorem g9.lstUpd {pins:List (Addr×Obj)}{σ:St}{H:Hp}{s:Shared}{p:Addr}{xs ys:List V}{its its':List Value}{n n':Nat}{f:Obj->Obj}(I:g9 X pins σ H s)(h:H p=some (.lst xs))
   (ho:s.heap.get? p=some {cls:= .type "list",data:= .seq its.toArray n}) (hf:f {cls:= .type "list",data:= .seq its.toArray n}={cls:= .type "list",data:= .seq its'.toArray n'}) (r:m8 ys its') (hz:ys.length<=sizeLine) (t:Nat):
   g9 X pins σ (c9 H p (.lst ys)) {s with heap:=s.heap.update p f,toks:=t}:=by
 have e:(s.heap.update p f).get? p=some {cls:= .type "list",data:= .seq its'.toArray n'}:=by
   rw[Heap.get?_update_self f ho (by rw[hf]<;>rfl),hf]
 refine I.write (x:=p) (e:=p) (by rw[h];trivial) (.inl rfl) (fun b u hb q=>(Heap.get?_update_other _ _ (Ne.symm hb)).trans q) ⟨_,e⟩ ?_;exact ⟨hz,its',n',r,e⟩
def dk8:V->V->V->Hp->(Hp->Prop)->Prop:=fun o i v H Q=>∃p xs k j,o= .ref p/\i= .int k/\H p=some (.lst xs)/\ixN xs.length k=some j/\Q (c9 H p (.lst (xs.set j v)))
theorem ac2:de3 X dk8:=by
 intro pins s σ H o i v ov iv u Q I ro ri rv h;obtain ⟨p,xs,k,j,rfl,rfl,hp,hj,q⟩:=h;cases ro;obtain ⟨t,rfl⟩:=ri;obtain ⟨its,n,r,ho,hz⟩:=I.lst hp;obtain ⟨h1,h2,h3,h4⟩:=bd3 hj;have hl:=r.length;have hn:=ay5
 have I':g9 X pins σ (c9 H p (.lst (xs.set j v))) {s with heap:=s.heap.update p (Obj.mapSeq (·.setIfInBounds j u))}:=
   I.lstUpd hp ho (cd1 its n j u) (r.set rv j) (by rw[ei6];exact hz) s.toks
 by_cases h0:0<=k
 · have hk:k.toNat=j:=by
     rw[seqIndex_of h0 h4] at h1;exact Option.some.inj h1
   exact PySem.W.ki_setAt ho h0 (by omega) (by rw[dt8,<-hl];exact h4) (by rw[hk];exact ⟨_,I',q⟩)
 · have hk:(k+(its.toArray.size:Int)).toNat=j:=by
     rw[seqIndex_neg (by omega) h3] at h1;rw[dt8,<-hl];exact Option.some.inj h1
   exact PySem.W.ki_setBack ho (by omega) (by rw[dt8,<-hl];exact h3) (by omega) (by rw[hk];exact ⟨_,I',q⟩)
theorem bn8 (lo hi:Option Int)(n:Nat):(sliceBounds lo hi none n).1=((HT.sIx n 0 lo:Nat):Int)/\(sliceBounds lo hi none n).2.1=((HT.sIx n n hi:Nat):Int)/\(sliceBounds lo hi none n).2.2=1:=by
 refine ⟨?_,?_,rfl⟩
 · cases lo with
   |none=>simp [sliceBounds,HT.sIx]
   |some i=>
    simp only[sliceBounds,HT.sIx,Option.getD_none,show (1:Int) > 0 by decide,if_true]
    by_cases h:i < 0
    · simp only[h,if_true]<;>omega
    · simp only[h,if_false]<;>omega
 · cases hi with
   |none=>simp [sliceBounds,HT.sIx]
   |some i=>
    simp only[sliceBounds,HT.sIx,Option.getD_none,show (1:Int) > 0 by decide,if_true]
    by_cases h:i < 0
    · simp only[h,if_true]<;>omega
    · simp only[h,if_false]<;>omega
theorem bl0 (its:List Value)(lo hi:Option Int):slicePick its.toArray lo hi none=((its.drop (HT.sIx its.length 0 lo)).take (HT.sIx its.length its.length hi - HT.sIx its.length 0 lo)).toArray:=by
 obtain ⟨h1,h2,h3⟩:=bn8 lo hi its.toArray.size;unfold slicePick;rw[h1,h2,h3]
 simp only[sliceRange_one,pick_run,dt8]<;>rfl
def dp8 (K:PySem.W.Frag):V->Option Int->Option Int->Hp->VK->Prop:=fun x lo hi H Q=>∃a xs,x= .ref a/\i5 K H a xs/\∀p,H p=none->Q (.ref p) (c9 H p (.lst (Y7 xs lo hi)))
theorem ab0:SlR X (dp8 X.K):=by
 intro pins s σ H x v vl vu lo hi sl Q I rx hs pl pu h;obtain ⟨a,xs,rfl,hx,q⟩:=h;cases rx;obtain ⟨its,r,ht,hz⟩:=I.list hx;have hlen:=r.length;refine ⟨"list",_,slot_list_getitem.lookup,ht.isList.typeIs,?_⟩;refine wpAny_getItem_list_slice ht.isList hs pl pu .none (by simp) ?_ (by rw[dt8]<;>omega);rw[bl0,<-hlen];refine ⟨.ref s.heap.objs.size,_,I.laid (t':=s.toks) (o:= .lst (Y7 xs lo hi)) (fun b ob q=>Heap.get?_push_of_some _ q) (ds4 _) ?_,rfl,q _ (I.hok.fresh (ds4 _))⟩;exact ⟨dt6 (bw0 xs lo hi) hz,_,0,(r.drop (HT.sIx xs.length 0 lo)).take (HT.sIx xs.length xs.length hi - HT.sIx xs.length 0 lo),Heap.get?_push_size _ rfl⟩
def bl7:V->Bool
 | .non=>true
 | .bl _=>true
 | .int _=>true
 | .str _=>true
 |_=>false
def eqV:V->V->Bool
 | .non,.non=>true
 | .bl a,.bl b=>a==b
 | .bl a,.int b=>(if a then 1 else 0)==b
 | .int a,.bl b=>a==(if b then 1 else 0)
 | .int a,.int b=>a==b
 | .str a,.str b=>a==b
 |_,_=>false
theorem df5 {A:Around}{s:Shared}{y x:V}{u v:Value}(ry:p5 y u)(rx:p5 x v)(fy:bl7 y=true)(fx:bl7 x=true):SeqAt.EqAt A s u v (eqV y x):=by
 cases y with
 |non=>
  cases ry
  cases x with
  |non=>cases rx;exact SeqAt.EqAt.same _
  |bl b=>cases rx;exact SeqAt.EqAt.none_bool b
  |int b=>obtain ⟨t,rfl⟩:=rx;exact SeqAt.EqAt.none_int b t
  |str b=>obtain ⟨t,rfl⟩:=rx;exact SeqAt.EqAt.none_str b t
  |_=>exact absurd (show false=true from fx) dv3
 |bl a=>
  cases ry
  cases x with
  |non=>cases rx;exact SeqAt.EqAt.bool_none a
  |bl b=>cases rx;exact SeqAt.EqAt.bool_bool a b
  |int b=>obtain ⟨t,rfl⟩:=rx;exact SeqAt.EqAt.bool_int a b t
  |str b=>obtain ⟨t,rfl⟩:=rx;exact SeqAt.EqAt.bool_str a b t
  |_=>exact absurd (show false=true from fx) dv3
 |int a=>
  obtain ⟨t',rfl⟩:=ry
  cases x with
  |non=>cases rx;exact SeqAt.EqAt.int_none a t'
  |bl b=>cases rx;exact SeqAt.EqAt.int_bool a t' b
  |int b=>obtain ⟨t,rfl⟩:=rx;exact SeqAt.EqAt.int_int a t' b t
  |str b=>obtain ⟨t,rfl⟩:=rx;exact SeqAt.EqAt.int_str a t' b t
  |_=>exact absurd (show false=true from fx) dv3
 |str a=>
  obtain ⟨t',rfl⟩:=ry
  cases x with
  |non=>cases rx;exact SeqAt.EqAt.str_none a t'
  |bl b=>cases rx;exact SeqAt.EqAt.str_bool a t' b
  |int b=>obtain ⟨t,rfl⟩:=rx;exact SeqAt.EqAt.str_int a t' b t
  |str b=>obtain ⟨t,rfl⟩:=rx;exact SeqAt.EqAt.str_str a t' b t
  |_=>exact absurd (show false=true from fx) dv3
 |_=>exact absurd (show false=true from fy) dv3
theorem bn9:K9 X (.builtin "len") (fun xs H Q=>∃p ys,xs=[.ref p]/\(i5 X.K H p ys\/T2 X.K H p ys)/\Q (.int ys.length) H):=by
 intro pins s σ H xs us Q I r h;obtain ⟨p,ys,rfl,hq,q⟩:=h;obtain ⟨u,rfl,rx⟩:=Q2 r;cases rx;have hn:=ay5
 rcases hq with hq|hq
 · obtain ⟨its,r',pl,hz⟩:=I.list hq;have hlen:=r'.length;exact Calls.call_len_list pl.isList (by simp only[dt8]<;>omega) ⟨.int ys.length,H,I.tok _,⟨s.toks+1,by rw[dt8,hlen]⟩,q⟩
 · obtain ⟨its,r',pl,hz⟩:=I.tuple hq;have hlen:=r'.length;exact len_tuple pl (by simp only[dt8]<;>omega) ⟨.int ys.length,H,I.tok _,⟨s.toks+1,by rw[dt8,hlen]⟩,q⟩
theorem bo0:K9 X (.type "list") (fun xs H Q=>∃p ys,xs=[.ref p]/\(i5 X.K H p ys\/T2 X.K H p ys)/\∀l,H l=none->Q (.ref l) (c9 H l (.lst ys))):=by
 intro pins s σ H xs us Q I r h;obtain ⟨p,ys,rfl,hq,q⟩:=h;obtain ⟨u,rfl,rx⟩:=Q2 r;cases rx
 have fin:∀(its:List Value),m8 ys its->ys.length<=sizeLine->∀(h':Heap) (c':Nat),(∀b o',s.heap.get? b=some o'->h'.get? b=some o')->
     h'.get? s.heap.objs.size=some {cls:= .type "list",dict:=none,data:= .seq its.toArray c',slots:= #[]}->EP X pins σ Q (.ref s.heap.objs.size) {s with heap:=h'}:=fun its r' hz h' c' kp e=>
   ⟨.ref s.heap.objs.size,_,I.laid (t':=s.toks) kp (ds4 _) (show q9 X.prog X.w _ h' _ (.lst ys) from ⟨hz,its,c',r',e⟩),rfl,q _ (I.hok.fresh (ds4 _))⟩
 rcases hq with hq|hq
 · obtain ⟨its,r',pl,hz⟩:=I.list hq;have hlen:=r'.length;obtain ⟨o,ho,hc,n,hd⟩:=pl.isList;exact call_list_seq p (.inl rfl) ho hc hd (fun h' c' kp e=>fin its r' hz h' c' kp e) (by simp only[dt8]<;>omega)
 · obtain ⟨its,r',pl,hz⟩:=I.tuple hq;have hlen:=r'.length;obtain ⟨o,ho,hc,n,hd⟩:=pl;exact call_list_seq p (.inr rfl) ho hc hd (fun h' c' kp e=>fin its r' hz h' c' kp e) (by simp only[dt8]<;>omega)
theorem am6:K9 X (.type "tuple") (fun xs H Q=>∃p ys,xs=[.ref p]/\((i5 X.K H p ys/\∀l,H l=none->Q (.ref l) (c9 H l (.tup ys)))\/(T2 X.K H p ys/\Q (.ref p) H))):=by
 intro pins s σ H xs us Q I r h;obtain ⟨p,ys,rfl,h⟩:=h;obtain ⟨u,rfl,rx⟩:=Q2 r;cases rx
 rcases h with ⟨hq,q⟩|⟨hq,q⟩
 · obtain ⟨its,r',pl,hz⟩:=I.list hq;have hlen:=r'.length;refine call_tuple_list pl.isList (fun h' kp=> ?_) (by simp only[dt8]<;>omega);have I1:g9 X pins σ H {s with heap:=h'}:=I.kept (t':=s.toks) kp
   have I2:g9 X pins σ (c9 H h'.objs.size (.tup ys)) {s with heap:=h'.push {cls:= .type "tuple",data:= .seq its.toArray}}:=
     I1.laid (t':=s.toks) (fun b o e=>Heap.get?_push_of_some _ e) (ds4 _) (show q9 X.prog X.w _ _ _ (.tup ys) from ⟨hz,its,r',IsTup.new _ _⟩)
   exact ⟨.ref h'.objs.size,_,I2,rfl,q _ (I1.hok.fresh (ds4 _))⟩
 · obtain ⟨its,r',pl,hz⟩:=I.tuple hq;exact call_tuple_same pl ⟨.ref p,H,I,rfl,q⟩
def tyV (K:PySem.W.Frag)(T:String)(x:V)(H:Hp):Prop:=match x with
 | .str _=>T="str"
 | .int _=>T="int"
 | .ref p=>(T="list"/\∃xs,i5 K H p xs)\/(T="tuple"/\∃o,K.lookup p=some o/\o.cls= .type "tuple"/\o.dict=none)\/
     (T="dict"/\((∃kvs,H p=some (.dK kvs))\/∃kvs,H p=some (.dT kvs)))\/(T="set"/\∃S n,H p=some (.set S n))
 |_=>False
theorem df6 {pins:List (Addr×Obj)}{σ:St}{H:Hp}{s:Shared}{T:String}{x:V}{v:Value}(I:g9 X pins σ H s)(r:p5 x v)(ty:tyV X.K T x H):
   s.TypeIs v T/\∀a,v= .ref a->∃ob,s.heap.get? a=some ob/\ob.dict=none:=by
 cases x with
 |str z=>
  obtain ⟨t,rfl⟩:=r;cases (show T="str" from ty);exact ⟨typeIs_str s z t,fun _ e=>nomatch e⟩
 |int i=>
  obtain ⟨t,rfl⟩:=r;cases (show T="int" from ty);exact ⟨typeIs_int s i t,fun _ e=>nomatch e⟩
 |ref p=>
  cases r
  rcases ty with ⟨rfl,xs,hq⟩|⟨rfl,o,hk,hc,hd⟩|⟨rfl,hk⟩|⟨rfl,S,n,hk⟩
  · obtain ⟨its,_,pl,_⟩:=I.list hq;refine ⟨pl.isList.typeIs,fun a e=> ?_⟩;cases e;obtain ⟨o,n,e,c,hd,_⟩:=pl;exact ⟨o,e,hd⟩
  · refine ⟨⟨o,I.kIn p o hk,hc⟩,fun a e=> ?_⟩;cases e;exact ⟨o,I.kIn _ o hk,hd⟩
  · have z:∃o,s.heap.get? p=some o/\o.ExactDict:=by
      rcases hk with ⟨kvs,hk⟩|⟨kvs,hk⟩
      · obtain ⟨_,_,_,_,o,_,_,e,ex,_⟩:=I.hok p _ hk;exact ⟨o,e,ex⟩
      · obtain ⟨_,_,_,_,o,_,_,e,ex,_⟩:=I.hok p _ hk;exact ⟨o,e,ex⟩
    obtain ⟨o,e,ex⟩:=z;refine ⟨⟨o,e,ex.1⟩,fun a e2=> ?_⟩;cases e2;exact ⟨o,e,ex.2.1⟩
  · obtain ⟨o,_,_,_,e,ex,_⟩:=I.hok p _ hk;refine ⟨⟨o,e,ex.1⟩,fun a e2=> ?_⟩;cases e2;exact ⟨o,e,ex.2.1⟩
 |_=>exact False.elim ty
def tBM (K:PySem.W.Frag)(T:String)(r:V->List V->Hp->VK->Prop)(to:TE)(t:TA):TE:=fun σ H Q=>to σ H fun x H1=>tyV K T x H1/\t σ H1 fun xs H2=>r x xs H2 Q
variable {o e:Expr} {es:List Expr} {to:TE} {t:TA} {name:Str} {apos cpos:Pos} {T id:String} {r:V->List V->Hp->VK->Prop}
theorem bl8 (pa:PlainAttrs T)(slot:Slot T name id)(hty:typeOf (.builtin id)=pure (.type "method_descriptor"))(hm:MtR X id r)(ho:PE X o to)(ha:PA X (e::es) t)
   (hbase:attributeBase o name X.env (eval o X.env)=eval o X.env:=by rfl)
   (hfew:((backTo cpos (starEach (e::es) X.env)).all (fun x=> !x.1)&&(backToKw cpos (keywordEach [] X.env)).all (fun x=>x.1.isSome)
     &&decide ((e::es).length+([]:List Keyword).length+(if ([]:List Keyword).isEmpty then 0 else 1) < 30))=true:=by rfl)
   (hline:(apos.endLine==cpos.line)=true:=by rfl) (hs:starEach (e::es) X.env=(false,eval e X.env)::starEach es X.env:=by rfl) (hplain:(backTo cpos (starEach es X.env)).any (·.1)=false:=by rfl):
   PE X (.Call (.Attribute o name apos) (e::es) [] cpos) (tBM X.K T r to t):=by
 intro pins s σ H Q I h;refine wpAny_Call_method_late hbase hfew hline rfl (p6 (ho pins s σ H _ I h) fun v s1 ⟨x,H1,I1,r1,ty,q1⟩=> ?_);obtain ⟨h1,h2⟩:=df6 I1 r1 ty;refine ⟨T,id,pa,slot,hty,h1,h2,?_⟩;have hA:=ha cpos pins s1 σ H1 _ I1 q1;rw[hs] at hA ⊢;refine Calls.callWith_builtin (by show (false||(backTo cpos (starEach es X.env)).any (·.1))=false;rw[hplain]<;>rfl) (Calls.evalArgs_plain ?_)
 exact p6 hA fun us s2 ⟨vs,H2,I2,r2,q2⟩=>hm pins s2 σ H2 x vs v us Q I2 r1 r2 q2
end
end L2
namespace L2
open PySem PySem.Spec PyProof.Rows
def MtM (X:Cx)(id:String)(r:V->List V->Hp->VK->Prop):Prop:=
 ∀(pins:List (Addr×Obj)) (s:Shared) (σ:St) (H:Hp) (x:V) (xs:List V) (v:Value) (us:List Value) (Q:VK),g9 X pins σ H s->p5 x v->m8 xs us->r x xs H Q->
  wpAny (model X.prog X.w) X.A (call (.builtin id) (v::us)) (EP X pins σ Q) X.xe s
theorem m8.one:∀{x:V} {us:List Value},m8 [x] us->∃u,us=[u]/\p5 x u
 |_,_,.cons r .nil=>⟨_,rfl,r⟩
theorem m8.eraseIdx:∀{xs:List V} {us:List Value} (i:Nat),m8 xs us->m8 (xs.eraseIdx i) (us.eraseIdx i)
 |_,_,_,.nil=> .nil
 |_,_,0,.cons _ t=>t
 |_,_,i+1,.cons r t=> .cons r (m8.eraseIdx i t)
theorem m8.rep {xs:List V}{us:List Value}(h:m8 xs us):∀k:Nat,m8 (dw8 k xs).flatten (dw8 k us).flatten
 |0=> .nil
 |k+1=>by
  rw[ec8,ec8,dt9,dt9];exact m8.append h (m8.rep h k)
theorem bh8 {α:Type}:∀(l:List α) (i:Nat),(l.eraseIdx i).length<=l.length
 |[],_=>ds4 _
 |_::_,0=>ei7 _
 |_::r,i+1=>Nat.succ_le_succ (bh8 r i)
theorem bh9 (its:List Value):∀(k:Nat) (acc:List Value),
   List.foldl (fun x1 x2=>x1++x2) acc.toArray (dw8 k its.toArray)=(acc++(dw8 k its).flatten).toArray
 |0,acc=>by simp
 |k+1,acc=>by
  have e:acc.toArray++its.toArray=(acc++its).toArray:=by simp
  have e2:(acc++its)++(dw8 k its).flatten=acc++(dw8 (k+1) its).flatten:=by
    rw[ec8,dt9,du2]
  rw[<-e2,<-bh9 its k (acc++its),<-e,ec8,List.foldl_cons]
section
variable {X:Cx} {pins:List (Addr×Obj)} {σ:St} {H:Hp} {s:Shared} {l b:Addr} {xs ys zs:List V}
theorem g9.lset {its its':List Value}{n:Nat}{f:Array Value->Array Value}{t':Nat}(I:g9 X pins σ H s)(hH:H l=some (.lst xs))
   (e:s.heap.get? l=some {cls:= .type "list",data:= .seq its.toArray n}) (hf:f its.toArray=its'.toArray) (hv:m8 ys its') (hz:ys.length<=sizeLine):
   g9 X pins σ (c9 H l (.lst ys)) {s with heap:=s.heap.update l (Obj.mapSeq f),toks:=t'}:=by
 have q:=PySem.IsL.update e f;rw[hf] at q;refine I.write (x:=l) (e:=l) (by rw[hH];exact trivial) (.inl rfl) (fun b' u hb hu=>(Heap.get?_update_other s.heap (Obj.mapSeq f) (Ne.symm hb)).trans hu) ⟨_,q⟩ ?_;exact ⟨hz,its',_,hv,q⟩
theorem g9.lnew {its:List Value}{t':Nat}(I:g9 X pins σ H s)(hv:m8 ys its)(hz:ys.length<=sizeLine):
   g9 X pins σ (c9 H s.heap.objs.size (.lst ys)) {s with heap:=s.heap.push {cls:= .type "list",data:= .seq its.toArray},toks:=t'}:=
 I.laid (fun _ _ q=>Heap.get?_push_of_some _ q) (ds4 _) ⟨hz,its,0,hv,Heap.get?_push_size _ rfl⟩
theorem g9.fresh (I:g9 X pins σ H s):H s.heap.objs.size=none:=I.hok.fresh (ds4 _)
theorem g9.lstM (I:g9 X pins σ H s)(hH:H l=some (.lst xs)):xs.length<=sizeLine/\∃(its:List Value) (n:Nat),m8 xs its/\xs.length=its.length/\s.heap.get? l=some {cls:= .type "list",data:= .seq its.toArray n}:=by
 obtain ⟨z,its,n,r,e⟩:=I.hok l _ hH;exact ⟨z,its,n,r,r.length,e⟩
theorem bo1 {n:Nat}(h:n<=sizeLine):Builtin.List.listTooLong n=false:=by
 unfold Builtin.List.listTooLong;exact decide_eq_false (by omega)
end
section
variable {X:Cx}
def by5:V->List V->Hp->VK->Prop:=fun x vs H Q=>∃l xs y,x= .ref l/\vs=[y]/\H l=some (.lst xs)/\xs.length < sizeLine/\Q .non (c9 H l (.lst (xs++[y])))
theorem ci4:MtM X "list.append" by5:=by
 intro pins s σ H x vs v us Q I rx rv h;obtain ⟨l,xs,y,rfl,rfl,hH,hz,q⟩:=h;cases rx;obtain ⟨u,rfl,ru⟩:=rv.one;obtain ⟨z,its,n,r,hl,e⟩:=I.lstM hH;refine call_meets F.slot_list_append ⟨_,e,rfl⟩ F.entry_list_append (F.args_list_append_2 _ _) (PySem.list_append l its.toArray n u (by rw[dt8];omega)) ⟨e,?_⟩;refine ⟨.non,_,I.lset (its':=its++[u]) hH e (by simp) (r.append (.cons ru .nil)) ?_,rfl,q⟩;rw[ds8,eh3];omega
def by6:V->List V->Hp->VK->Prop:=fun x vs H Q=>∃l b xs zs,x= .ref l/\vs=[.ref b]/\H l=some (.lst xs)/\H b=some (.lst zs)/\xs.length+zs.length<=sizeLine/\Q .non (c9 H l (.lst (xs++zs)))
theorem ci5:MtM X "list.extend" by6:=by
 intro pins s σ H x vs v us Q I rx rv h;obtain ⟨l,b,xs,zs,rfl,rfl,hH,hB,hz,q⟩:=h;cases rx;obtain ⟨u,rfl,ru⟩:=rv.one;cases ru;obtain ⟨z,its,n,r,hl,e⟩:=I.lstM hH;obtain ⟨z2,its2,n2,r2,hl2,e2⟩:=I.lstM hB
 have hsz:its.toArray.size+its2.toArray.size<=sizeLine:=by rw[dt8,dt8];omega
 have hlong:¬(!its.toArray.isEmpty&&Builtin.List.listTooLong (its.toArray.size+its2.toArray.size))=true:=by
   rw[bo1 hsz,Bool.and_false];exact dv3
 refine call_meets F.slot_list_extend ⟨_,e,rfl⟩ F.entry_list_extend (F.args_list_extend_2 _ _)
   (AutoSeq1.list_extend_list_list_0 l its.toArray n b its2.toArray n2 hlong (by rw[dt8];omega) (by omega)) ⟨e,e2,?_⟩
 refine ⟨.non,_,I.lset (its':=its++its2) hH e (by simp) (r.append r2) ?_,rfl,q⟩;rw[ds8];omega
def ci6:V->List V->Hp->VK->Prop:=fun x vs H Q=>∃l xs i k y,x= .ref l/\vs=[.int i]/\H l=some (.lst xs)/\ -(2^63)<=i/\i < 2^63/\seqIndex? i xs.length=some k/\xs[k]? =some y/\Q y (c9 H l (.lst (xs.eraseIdx k)))
theorem cp8:MtM X "list.pop" ci6:=by
 intro pins s σ H x vs v us Q I rx rv h;obtain ⟨l,xs,i,k,y,rfl,rfl,hH,h1,h2,hk,hy,q⟩:=h;cases rx;obtain ⟨u,rfl,ru⟩:=rv.one;obtain ⟨t,rfl⟩:=ru;obtain ⟨z,its,n,r,hl,e⟩:=I.lstM hH;obtain ⟨w,hw,rw'⟩:=r.get hy
 refine call_meets F.slot_list_pop ⟨_,e,rfl⟩ F.entry_list_pop (F.args_list_pop_2 _ _)
   (MeetsSeq.list_pop_at l its.toArray n i t k w (fitsIndex_both h1 h2) (by rw[dt8,<-hl];exact hk) (by rw[<-dy2];exact hw) (by rw[dt8];omega)) ⟨e,?_⟩
 refine ⟨y,_,I.lset (its':=its.eraseIdx k) hH e ?_ (r.eraseIdx k) ?_,rw',q⟩
 · show its.toArray.eraseIdxIfInBounds k=(its.eraseIdx k).toArray;rw[List.eraseIdxIfInBounds_toArray]
 · have:=bh8 xs k;omega
def dp9:R2:=fun x y H Q=>∃l b xs zs,x= .ref l/\y= .ref b/\H l=some (.lst xs)/\H b=some (.lst zs)/\xs.length+zs.length<=sizeLine/\∀p,H p=none->Q (.ref p) (c9 H p (.lst (xs++zs)))
theorem ac3:N8 X (binaryOp .Add) dp9:=by
 intro pins s σ H x y v u Q I rx ry h;obtain ⟨l,b,xs,zs,rfl,rfl,hH,hB,hz,q⟩:=h;cases rx;cases ry;obtain ⟨z,its,n,r,hl,e⟩:=I.lstM hH;obtain ⟨z2,its2,n2,r2,hl2,e2⟩:=I.lstM hB;refine PySem.P.add_list e e2 ?_ (by rw[dt8,dt8];omega)
 have ea:its.toArray++its2.toArray=(its++its2).toArray:=by simp
 rw[ea];exact ⟨.ref _,_,I.lnew (t':=s.toks) (r.append r2) (by rw[ds8];omega),rfl,q _ I.fresh⟩
def dq0:R2:=fun x y H Q=>∃l k xs,x= .ref l/\y= .int k/\H l=some (.lst xs)/\ -(2^63)<=k/\k < 2^63/\xs.length*k.toNat<=sizeLine/\
 ∀p,H p=none->Q (.ref p) (c9 H p (.lst (dw8 k.toNat xs).flatten))
theorem cz0 {α:Type}(xs:List α)(k:Nat):(dw8 k xs).flatten.length=k*xs.length:=by
 induction k with
 |zero=>simp
 |succ k ih=>rw[ec8,dt9,ds8,ih,ed5,ec4]
theorem df7:N8 X (binaryOp .Mult) dq0:=by
 intro pins s σ H x y v u Q I rx ry h;obtain ⟨l,k,xs,rfl,rfl,hH,h1,h2,hz,q⟩:=h;cases rx;obtain ⟨t,rfl⟩:=ry;obtain ⟨z,its,n,r,hl,e⟩:=I.lstM hH
 have hlen:its.toArray.size*k.toNat<=sizeLine:=by rw[dt8,<-hl];exact hz
 have hcap:¬its.toArray.size*k.toNat > (2^63 - 1)/8:=by
   have:(sizeLine:Nat)<=(2^63 - 1)/8:=by decide
   omega
 have hfit:¬(!Builtin.List.listFitsIndex k)=true:=by
   rw[fitsIndex_both h1 h2];exact dv3
 have hlong:¬Builtin.List.listTooLong (its.toArray.size*k.toNat)=true:=by
   rw[bo1 hlen];exact dv3
 have hnew:List.foldl (fun x1 x2=>x1++x2) #[] (dw8 (if its.toArray.isEmpty=true then 0 else k.toNat) its.toArray)=(dw8 k.toNat its).flatten.toArray:=by
   have f0:∀m:Nat,List.foldl (fun x1 x2=>x1++x2) #[] (dw8 m its.toArray)=(dw8 m its).flatten.toArray:=fun m=>by
     have:=bh9 its m [];rw[List.nil_append] at this;exact this
   rw[f0]
   cases its with
   |nil=>simp
   |cons a r'=>rw[if_neg (by simp)]
 refine wpAny_binaryOp_repeat_ref (T:="list") (U:="int") (by decide) ⟨_,e,rfl⟩ (fun s'=>typeIs_int s' k t) noFill_list_mul F.fills_int_mul F.slot_int_rmul repeat_list F.slot_int_index.lookup
   (call_meets F.slot_int_rmul (typeIs_int s k t) F.entry_int_rmul (F.args_int_rmul_2 _ _) (int___rmul___int_list k t l its.toArray n)
     ⟨e,rfl,⟨_,e,rfl⟩,call_meets F.slot_list_mul ⟨_,e,rfl⟩ F.entry_list_mul (F.args_list_mul_2 _ _) (AutoListH.list___mul___list_int_3 l its.toArray n k t hfit hcap hlong) ⟨e,?_⟩⟩)
 rw[hnew];exact ⟨.ref _,_,I.lnew (t':=s.toks) (r.rep k.toNat) (by rw[cz0,dy8];exact hz),rfl,q _ I.fresh⟩
end
end L2
namespace L2
open PySem PySem.Spec PyProof.Rows
section
variable {κ:Type} [DecidableEq κ]
def A7 (kvs:List (κ×V))(k:κ):Option V:=(kvs.find? fun kv=>decide (kv.1=k)).map (·.2)
def M5 (kvs:List (κ×V))(k:κ)(v:V):List (κ×V):=
 if (kvs.any fun kv=>decide (kv.1=k))=true then kvs.map (fun kv=>if kv.1=k then (kv.1,v) else kv) else kvs++[(k,v)]
theorem W1 {p:κ×V}{r:List (κ×V)}{k:κ}(e:p.1=k):A7 (p::r) k=some p.2:=by simp [A7,eg8,e]
theorem S5 {p:κ×V}{r:List (κ×V)}{k:κ}(e:¬p.1=k):A7 (p::r) k=A7 r k:=by simp [A7,eg8,e]
theorem ac4 (k:κ):∀kvs:List (κ×V),(kvs.any fun kv=>decide (kv.1=k))=(A7 kvs k).isSome
 |[]=>rfl
 |p::r=>by
  rw[eo5]
  by_cases e:p.1=k
  · simp only[W1 e,decide_eq_true e,Bool.true_or,Option.isSome_some]
  · rw[S5 e,decide_eq_false e,Bool.false_or];exact ac4 k r
theorem at1 (kvs:List (κ×V))(k:κ)(v:V):(M5 kvs k v).length<=kvs.length+1:=by
 unfold M5
 split
 · rw[ds1];omega
 · rw[ds8,dv9,ef0];omega
theorem au9 {kvs:List (κ×V)}{k:κ}(v:V)(h:A7 kvs k=none):M5 kvs k v=kvs++[(k,v)]:=by
 unfold M5;rw[ac4,h];exact if_neg (by decide)
theorem ab8.isSome_eq {o:Option V}{u:Option Value}(r:ab8 o u):o.isSome=u.isSome:=by
 cases o with
 |none=>cases u with
  |none=>rfl
  |some _=>exact (show False from r).elim
 |some _=>cases u with
  |none=>exact (show False from r).elim
  |some _=>rfl
theorem KV.val {kvs:List (κ×V)}{vs:List (κ×Value)}(r:KV kvs vs)(k:κ):ab8 (A7 kvs k) (valueAt vs k):=by
 unfold KV at r
 induction r with
 |nil=>exact True.intro
 |@cons p q ps qs h t ih=>
  obtain ⟨h1,h2⟩:=h
  by_cases e:p.1=k
  · have e':q.1=k:=h1.symm.trans e
    have b:valueAt (q::qs) k=some q.2:=by simp [valueAt,eg8,e']
    rw[W1 e,b];exact h2
  · have e':¬q.1=k:=fun z=>e (h1.trans z)
    have b:valueAt (q::qs) k=valueAt qs k:=by simp [valueAt,eg8,e']
    rw[S5 e,b];exact ih
theorem KV.any {kvs:List (κ×V)}{vs:List (κ×Value)}(r:KV kvs vs)(k:κ):(kvs.any fun kv=>decide (kv.1=k))=vs.any fun kv=>decide (kv.1=k):=by
 unfold KV at r
 induction r with
 |nil=>rfl
 |cons h t ih=>rw[eo5,eo5,ih,h.1]
theorem KV.repl {kvs:List (κ×V)}{vs:List (κ×Value)}(r:KV kvs vs)(k:κ){y:V}{u:Value}(ry:p5 y u):
   KV (kvs.map fun kv=>if kv.1=k then (kv.1,y) else kv) (vs.map fun kv=>if kv.1=k then (kv.1,u) else kv):=by
 unfold KV at r ⊢
 induction r with
 |nil=>exact .nil
 |@cons p q ps qs h t ih=>
  rw[du9,du9];refine .cons ?_ ih;obtain ⟨h1,h2⟩:=h
  by_cases e:p.1=k
  · rw[if_pos e,if_pos (h1.symm.trans e)];exact ⟨h1,ry⟩
  · rw[if_neg e,if_neg (fun z=>e (h1.trans z))];exact ⟨h1,h2⟩
theorem KV.put {kvs:List (κ×V)}{vs:List (κ×Value)}(r:KV kvs vs)(k:κ){y:V}{u:Value}(ry:p5 y u):KV (M5 kvs k y) (stored vs k u):=by
 unfold M5 stored;rw[r.any k]
 by_cases e:(vs.any fun kv=>decide (kv.1=k))=true
 · rw[if_pos e,if_pos e];exact r.repl k ry
 · rw[if_neg e,if_neg e];exact Paired.snoc r ⟨rfl,ry⟩
theorem KV.length {kvs:List (κ×V)}{vs:List (κ×Value)}(r:KV kvs vs):kvs.length=vs.length:=Paired.length r
end
theorem aq5 {P:Program}{w:World}{k:o3}{u:Value}(r:p5 (kV k) u):(y6 P w).is k u=true:=by
 cases k with
 |inl i=>obtain ⟨t,e⟩:=(show ∃t,u=Value.int i t from r);subst e;exact as7 P w i t
 |inr x=>obtain ⟨t,e⟩:=(show ∃t,u=Value.str x t from r);subst e;exact as8 P w x t
theorem bi0 {P:Program}{w:World}:∀{ks:List o3} {us:List Value},m8 (ks.map kV) us->ItemsAre (y6 P w) ks us
 |[],_,r=>by rw[ee7] at r;cases r;exact .nil
 |k::ks,_,r=>by
  rw[du9] at r
  cases r with
  |cons h t=>exact .cons (aq5 h) (bi0 t)
abbrev KT (H:Hp):List (List o3×V)->List (List o3×Addr×Value)->Prop:=Paired fun p q=>p.1=q.1/\H q.2.1=some (.tup (p.1.map kV))/\p5 p.2 q.2.2
theorem KT.val {H:Hp}{kvs:List (List o3×V)}{xs:List (List o3×Addr×Value)}(r:KT H kvs xs)(k:List o3):ab8 (A7 kvs k) ((atKey xs k).map (·.2)):=by
 induction r with
 |nil=>exact True.intro
 |@cons p q ps qs h t ih=>
  obtain ⟨h1,_,h2⟩:=h
  by_cases e:p.1=k
  · have e':q.1=k:=h1.symm.trans e
    have b:atKey (q::qs) k=some q.2:=by simp [atKey,eg8,e']
    rw[W1 e,b];exact h2
  · have e':¬q.1=k:=fun z=>e (h1.trans z)
    have b:atKey (q::qs) k=atKey qs k:=by simp [atKey,eg8,e']
    rw[S5 e,b];exact ih
theorem KT.repl {H:Hp}{kvs:List (List o3×V)}{xs:List (List o3×Addr×Value)}(r:KT H kvs xs)(k:List o3){y:V}{u:Value}(ry:p5 y u):
   KT H (kvs.map fun kv=>if kv.1=k then (kv.1,y) else kv) (xs.map (putAt k u)):=by
 induction r with
 |nil=>exact .nil
 |@cons p q ps qs h t ih=>
  rw[du9,du9];refine .cons ?_ ih;obtain ⟨h1,h2,h3⟩:=h;unfold putAt
  by_cases e:p.1=k
  · rw[if_pos e,if_pos (h1.symm.trans e)];exact ⟨h1,h2,ry⟩
  · rw[if_neg e,if_neg (fun z=>e (h1.trans z))];exact ⟨h1,h2,h3⟩
theorem KT.put {H:Hp}{kvs:List (List o3×V)}{xs:List (List o3×Addr×Value)}(r:KT H kvs xs)(k:List o3){b:Addr}{y:V}{u:Value}(hb:H b=some (.tup (k.map kV)))(ry:p5 y u):
   KT H (M5 kvs k y) (storedH xs k b u):=by
 have e:(kvs.any fun kv=>decide (kv.1=k))=(atKey xs k).isSome:=by
   rw[ac4,(r.val k).isSome_eq,em7]
 unfold M5 storedH;rw[e]
 by_cases q:(atKey xs k).isSome=true
 · rw[if_pos q,if_pos q];exact r.repl k ry
 · rw[if_neg q,if_neg q];exact Paired.snoc r ⟨rfl,hb,ry⟩
theorem KT.keeps {H H':Hp}{kvs:List (List o3×V)}{xs:List (List o3×Addr×Value)}(r:KT H kvs xs)(ht:∀b ys,H b=some (.tup ys)->H' b=some (.tup ys)):KT H' kvs xs:=
 Paired.mapP r fun _ _ z=>⟨z.1,ht _ _ z.2.1,z.2.2⟩
section
variable {P:Program} {w:World} {H:Hp} {h:Heap} {a:Addr}
theorem cw8 {u:HO}(ok:E7 P w H h)(e:Rd H a u):q9 P w H h a u:=e.ok ok
theorem ay7 {kvs:List (o3×V)}(ok:E7 P w H h)(e:Rd H a (.dK kvs)):kvs.length<=sizeLine/\(a==sysModules)=false/\∃vs,KV kvs vs/\h.DictOf (y6 P w) a vs:=
 show q9 P w H h a (.dK kvs) from cw8 ok e
theorem cw9 {kvs:List (o3×V)}(ok:E7 P w H h)(e:H a=some (.dK kvs)):kvs.length<=sizeLine/\(a==sysModules)=false/\∃vs,KV kvs vs/\h.DictOf (y6 P w) a vs:=ay7 ok (.inl e)
theorem an5 {ks:List o3}(ok:E7 P w H h)(e:H a=some (.tup (ks.map kV))):(tupleKind (y6 P w)).is h ks a:=by
 obtain ⟨_,its,r,o,h1,h2,n,h3⟩:=(show q9 P w H h a (.tup (ks.map kV)) from ok a _ e);exact ⟨o,its.toArray,n,h1,h2,h3,by simpa using bi0 r⟩
theorem ay8 {kvs:List (List o3×V)}(ok:E7 P w H h)(e:Rd H a (.dT kvs)):kvs.length<=sizeLine/\(a==sysModules)=false/\
   ∃xs,KT H kvs xs/\h.DictOfH (tupleKind (y6 P w)) a xs:=by
 obtain ⟨z,y,xs,r,o,es,ep,h1,h2,h3,h4,h5⟩:=(show q9 P w H h a (.dT kvs) from cw8 ok e);refine ⟨z,y,xs,r,o,es,ep,h1,h2,h3,h4,fun x hx=> ?_,h5⟩
 have all:∀{l:List (List o3×V)} {m:List (List o3×Addr×Value)},KT H l m->∀x∈m,(tupleKind (y6 P w)).is h x.1 x.2.1:=by
   intro l m q
   induction q with
   |nil=>intro x hx;exact nomatch hx
   |@cons p q ps qs hq t ih=>
    intro x hx
    rcases dt7.mp hx with e|hx
    · subst e;exact an5 ok (by rw[<-hq.1];exact hq.2.1)
    · exact ih x hx
 exact all r x hx
theorem dk9 {kvs:List (List o3×V)}(ok:E7 P w H h)(e:H a=some (.dT kvs)):kvs.length<=sizeLine/\(a==sysModules)=false/\
 ∃xs,KT H kvs xs/\h.DictOfH (tupleKind (y6 P w)) a xs:=ay8 ok (.inl e)
end
def U1 (H:Hp)(a:Addr)(y:V)(r:Option V):Prop:=
 (∃kvs k,Rd H a (.dK kvs)/\y=kV k/\r=A7 kvs k)\/∃kvs k b,Rd H a (.dT kvs)/\y= .ref b/\H b=some (.tup (k.map kV))/\r=A7 kvs k
def ag1 (H:Hp)(a:Addr)(y v:V)(H':Hp):Prop:=
 (∃kvs k,H a=some (.dK kvs)/\y=kV k/\kvs.length < sizeLine/\H'=c9 H a (.dK (M5 kvs k v)))\/
 ∃kvs k b,H a=some (.dT kvs)/\y= .ref b/\H b=some (.tup (k.map kV))/\kvs.length < sizeLine/\H'=c9 H a (.dT (M5 kvs k v))
theorem U1.k {H:Hp}{a:Addr}{kvs:List (o3×V)}{k:o3}(e:H a=some (.dK kvs)):U1 H a (kV k) (A7 kvs k):= .inl ⟨kvs,k,.inl e,rfl,rfl⟩
theorem U1.t {H:Hp}{a b:Addr}{kvs:List (List o3×V)}{k:List o3}(e:H a=some (.dT kvs))(eb:H b=some (.tup (k.map kV))):U1 H a (.ref b) (A7 kvs k):= .inr ⟨kvs,k,b,.inl e,rfl,eb,rfl⟩
theorem ag1.k {H:Hp}{a:Addr}{kvs:List (o3×V)}{k:o3}{v:V}(e:H a=some (.dK kvs))(hl:kvs.length < sizeLine):ag1 H a (kV k) v (c9 H a (.dK (M5 kvs k v))):= .inl ⟨kvs,k,e,rfl,hl,rfl⟩
theorem ag1.t {H:Hp}{a b:Addr}{kvs:List (List o3×V)}{k:List o3}{v:V}(e:H a=some (.dT kvs))(eb:H b=some (.tup (k.map kV)))(hl:kvs.length < sizeLine):
 ag1 H a (.ref b) v (c9 H a (.dT (M5 kvs k v))):= .inr ⟨kvs,k,b,e,rfl,eb,hl,rfl⟩
section
variable {X:Cx} {pins:List (Addr×Obj)} {σ:St} {H:Hp} {s:Shared} {a:Addr} {y v:V} {u r:Value} {o:Option V} {A:Around} {E:Value->Shared->Prop}
theorem g9.big (I:g9 X pins σ H s):sysModules < s.heap.objs.size:=by
 have h:mainGlobals < s.heap.objs.size:=(I.mod.glob.keeps I.bk).lt;exact Nat.lt_trans (by decide) h
theorem ci7 {Q:Value->Shared->Prop}(hu:A.units+1 < cLine)(I:g9 X pins σ H s)(g:U1 H a y (some v))(ry:p5 y u)(h:∀w' s',g9 X pins σ H s'->p5 v w'->Q w' s'):
   wpAny (model X.prog X.w) A (getItem (.ref a) u) Q E s:=by
 rcases g with ⟨kvs,k,e,ey,l⟩|⟨kvs,k,b,e,ey,eb,l⟩
 · subst ey;obtain ⟨z,hd,vs,rel,dd⟩:=ay7 I.hok e;obtain ⟨w',hw,rw'⟩:=ab8.some_of (v:=v) (o:=valueAt vs k) (by rw[l];exact rel.val k);exact wpAny_getItem_of (aq5 ry) dd.mapOf hw (h w' _ (I.tok _) rw')
 · subst ey;cases (show u=Value.ref b from ry);obtain ⟨z,hd,xs,rel,dd⟩:=ay8 I.hok e;obtain ⟨w',hw,rw'⟩:=ab8.some_of (v:=v) (o:=(atKey xs k).map (·.2)) (by rw[l];exact rel.val k);obtain ⟨p,hp,hp2⟩:=Option.map_eq_some_iff.mp hw;refine wpAny_getItem_heap (tupleKind_room_in1 hu) (an5 I.hok eb) dd hp ?_;rw[hp2];exact h w' _ (I.tok _) rw'
theorem dq1 {Q:Value->Shared->Prop}(hu:A.units+1 < cLine)(I:g9 X pins σ H s)(g:U1 H a y o)(ry:p5 y u)(h:∀s',g9 X pins σ H s'->Q (.bool o.isSome) s'):
   wpAny (model X.prog X.w) A (compareOp .In u (.ref a)) Q E s:=by
 rcases g with ⟨kvs,k,e,ey,l⟩|⟨kvs,k,b,e,ey,eb,l⟩
 · subst ey;obtain ⟨z,hd,vs,rel,dd⟩:=ay7 I.hok e;refine wpAny_in_of (aq5 ry) hd dd.mapOf ?_;rw[<-(rel.val k).isSome_eq,<-l];exact h _ (I.tok _)
 · subst ey;cases (show u=Value.ref b from ry);obtain ⟨z,hd,xs,rel,dd⟩:=ay8 I.hok e;refine wpAny_in_heap (tupleKind_room_in1 hu) (an5 I.hok eb) hd dd ?_;have q:=(rel.val k).isSome_eq;rw[em7] at q;rw[<-q,<-l];exact h _ (I.tok _)
theorem cz1 {Q:Value->Shared->Prop}(hu:A.units+1 < cLine)(I:g9 X pins σ H s)(g:U1 H a y o)(ry:p5 y u)(h:∀s',g9 X pins σ H s'->Q (.bool (!o.isSome)) s'):
   wpAny (model X.prog X.w) A (compareOp .NotIn u (.ref a)) Q E s:=by
 rcases g with ⟨kvs,k,e,ey,l⟩|⟨kvs,k,b,e,ey,eb,l⟩
 · subst ey;obtain ⟨z,hd,vs,rel,dd⟩:=ay7 I.hok e;refine wpAny_notIn_of (aq5 ry) hd dd.mapOf ?_;rw[<-(rel.val k).isSome_eq,<-l];exact h _ (I.tok _)
 · subst ey;cases (show u=Value.ref b from ry);obtain ⟨z,hd,xs,rel,dd⟩:=ay8 I.hok e;refine wpAny_notIn_heap (tupleKind_room_in1 hu) (an5 I.hok eb) hd dd ?_;have q:=(rel.val k).isSome_eq;rw[em7] at q;rw[<-q,<-l];exact h _ (I.tok _)
theorem aq6 {h':Heap}{t':Nat}{ob:HO}(I:g9 X pins σ H s)(mu:Mut (H a))(hs:Heap.SameBut a s.heap h')(he:∃q,h'.get? a=some q)(new:q9 X.prog X.w (c9 H a ob) h' a ob):
   g9 X pins σ (c9 H a ob) {s with heap:=h',toks:=t'}:=
 I.write (x:=a) (e:=a) mu (.inl rfl) (fun b q hb z=>(hs.2 b hb).trans z) he new
theorem ci8 {P:Program}{w:World}{H':Hp}{h':Heap}{kvs:List (o3×V)}{vs:List (o3×Value)}(z:kvs.length<=sizeLine)(hd:(a==sysModules)=false)(rel:KV kvs vs)(dd:h'.DictOf (y6 P w) a vs):
 q9 P w H' h' a (.dK kvs):=⟨z,hd,vs,rel,dd⟩
theorem ci9 {H':Hp}{Q:Unit->Shared->Prop}(hu:A.units+1 < cLine)(I:g9 X pins σ H s)(g:ag1 H a y v H')(ry:p5 y u)(rv:p5 v r)(h:∀s',g9 X pins σ H' s'->Q () s'):
   wpAny (model X.prog X.w) A (setItem (.ref a) u r) Q E s:=by
 rcases g with ⟨kvs,k,e,ey,l,eH⟩|⟨kvs,k,b,e,ey,eb,l,eH⟩
 · subst ey eH;obtain ⟨z,hd,vs,rel,dd⟩:=cw9 I.hok e
   have hz:vs.length<=sizeLine:=by rw[<-rel.length];exact z
   have hl:(M5 kvs k v).length<=sizeLine:=by have:=at1 kvs k v;omega
   refine wpAny_setItem_pairs (hsz:=hz) (aq5 ry) dd fun h' dd' hs=>h _ ?_
   have he:∃q,h'.get? a=some q:=let ⟨q,_,_,hq,_⟩:=dd';⟨q,hq⟩;exact aq6 I (by rw[e];exact True.intro) hs he (ci8 hl hd (rel.put k rv) dd')
 · subst ey eH;cases (show u=Value.ref b from ry);obtain ⟨z,hd,xs,rel,dd⟩:=dk9 I.hok e
   have hz:xs.length<=sizeLine:=by rw[<-Paired.length rel];exact z
   have hl:(M5 kvs k v).length<=sizeLine:=by have:=at1 kvs k v;omega
   refine wpAny_setItem_heap (hsz:=hz) (tupleKind_room_in1 hu) (an5 I.hok eb) dd fun h' dd' hs=>h _ ?_
   obtain ⟨q,es,ep,hq,h2,h3,h4,_,h5⟩:=dd';refine aq6 I (by rw[e];exact True.intro) hs ⟨q,hq⟩ ⟨hl,hd,_,(rel.put k eb rv).keeps fun c ys ec=> ?_,q,es,ep,hq,h2,h3,h4,h5⟩;rw[g8 (cv8 ec e (fun z=>nomatch z))];exact ec
end
def df8 (i:Expr):Prop:=∀ov iv,subscripted i false ov iv=operate [ov,iv] (getItem ov iv)
theorem cz2 {prog:Program}{w:World}{A:Around}{E:Value->Shared->Prop}{s:Shared}{env:Env}{value slice:Expr}{pos:Pos}{T id:String}{Q:Value->Shared->Prop}
   (hl:typeLookup (.type T) "__getitem__"=pure (some (.builtin id))) (hs:df8 slice)
   (h:wpAny (model prog w) A (eval value env) (fun o s₁=>wpAny (model prog w) A (eval slice env) (fun i s₂=>s₂.TypeIs o T/\wpAny (model prog w) A (getItem o i) Q E s₂) E s₁) E s):
   wpAny (model prog w) A (eval (.Subscript value slice pos) env) Q E s:=by
 refine Subscript_ (wpAny_mono h (fun o s₁ h₁=>wpAny_mono h₁ (fun i s₂ h₂=> ?_) fun _ _ x=>x) fun _ _ x=>x);obtain ⟨hT,h₂⟩:=h₂;unfold subscriptTail;refine wpAny_bind ?_;rw[getitemInPython_of_ne hT.not_modules];refine wpAny_bind (wpAny_specialOf hT hl ?_)
 have fin:wpAny (model prog w) A (subscripted slice false o i) (fun r s₃=>wpAny (model prog w) A (letTemporaryGo value o r >>=fun _=>pure r) Q E s₃) E s₂:=by
   rw[hs o i];exact wpAny_operating (wpAny_mono h₂ (fun r s₃ h₃=>wpAny_bind (wpAny_letTemporaryGo (wpAny_pure h₃))) fun _ _ x=>x)
 first
   |exact wpAny_pure (wpAny_bind fin)
   |exact wpAny_bind (wpAny_pure (wpAny_bind fin))
   |exact wpAny_bind fin
theorem bw1 {X:Cx}{pins:List (Addr×Obj)}{σ:St}{H:Hp}{s:Shared}{a:Addr}{y:V}{o:Option V}(I:g9 X pins σ H s)(g:U1 H a y o):s.TypeIs (.ref a) "dict":=by
 rcases g with ⟨kvs,k,e,_,_⟩|⟨kvs,k,b,e,_,_,_⟩
 · obtain ⟨_,_,vs,_,dd⟩:=ay7 I.hok e;exact dd.typeIs
 · obtain ⟨_,_,xs,_,dd⟩:=ay8 I.hok e;exact dd.typeIs
def dl0 (td ty:TE):TE:=fun σ H Q=>td σ H fun x H1=>ty σ H1 fun y H2=>∃a v,x= .ref a/\U1 H2 a y (some v)/\Q v H2
def dq2 (ty td:TE):TE:=fun σ H Q=>ty σ H fun y H1=>td σ H1 fun x H2=>∃a o,x= .ref a/\U1 H2 a y o/\Q (.bl o.isSome) H2
def cz3 (ty td:TE):TE:=fun σ H Q=>ty σ H fun y H1=>td σ H1 fun x H2=>∃a o,x= .ref a/\U1 H2 a y o/\Q (.bl (!o.isSome)) H2
def dl1 (td ty tv:TE):TS:=fun D σ H=>tv σ H fun v H1=>td σ H1 fun x H2=>ty σ H2 fun y H3=>∃a H4,x= .ref a/\ag1 H3 a y v H4/\D.nx σ H4
section
variable {X:Cx} {o i e value:Expr} {pos pos' tpos:Pos} {td ty tv:TE}
theorem ah9 (hu:X.A.units+1 < cLine)(ho:PE X o td)(hi:PE X i ty)(hs:df8 i):PE X (.Subscript o i pos) (dl0 td ty):=by
 intro pins s σ H Q I h;refine cz2 PySem.F.slot_dict_getitem.lookup hs (p6 (ho pins s σ H _ I h) fun u s1 ⟨x,H1,I1,rx,q1⟩=>p6 (hi pins s1 σ H1 _ I1 q1) fun iv s2 ⟨y,H2,I2,ry,a,v,ex,g,q2⟩=> ?_);subst ex;obtain rfl:u=Value.ref a:=rx;exact ⟨bw1 I2 g,ci7 hu I2 g ry fun w' s3 I3 rw'=>⟨v,H2,I3,rw',q2⟩⟩
theorem cj0 (hu:X.A.units+1 < cLine)(hi:PE X i ty)(ho:PE X o td):PC X .In i o (dq2 ty td):=by
 intro pins s σ H Q I h
 refine p6 (hi pins s σ H _ I h) fun iv s1 ⟨y,H1,I1,ry,q1⟩=>p6 (ho pins s1 σ H1 _ I1 q1) fun u s2 ⟨x,H2,I2,rx,a,ov,ex,g,q2⟩=> ?_
 subst ex;obtain rfl:u=Value.ref a:=rx
 exact dq1 hu I2 g ry fun s3 I3=>⟨.bl ov.isSome,H2,I3,rfl,q2⟩
theorem cj1 (hu:X.A.units+1 < cLine)(hi:PE X i ty)(ho:PE X o td):PC X .NotIn i o (cz3 ty td):=by
 intro pins s σ H Q I h
 refine p6 (hi pins s σ H _ I h) fun iv s1 ⟨y,H1,I1,ry,q1⟩=>p6 (ho pins s1 σ H1 _ I1 q1) fun u s2 ⟨x,H2,I2,rx,a,ov,ex,g,q2⟩=> ?_
 subst ex;obtain rfl:u=Value.ref a:=rx
 exact cz1 hu I2 g ry fun s3 I3=>⟨.bl (!ov.isSome),H2,I3,rfl,q2⟩
theorem aq7 (hu:X.A.units+1 < cLine)(ho:PE X o td)(hi:PE X i ty)(hv:PE X value tv)(hs:swapsWith value (some (.Subscript o i pos')) pos.line X.env=pure false):
   PS X (.Assign [.Subscript o i pos'] value pos) (dl1 td ty tv):=by
 intro pins s σ H D I h;refine wpAny_Assign_Subscript (p6 (hv pins s σ H _ I h) fun r s1 ⟨v,H1,I1,rv,q1⟩=>p6 (ho pins s1 σ H1 _ I1 q1) fun u s2 ⟨x,H2,I2,rx,q2⟩=>p6 (hi pins s2 σ H2 _ I2 q2) fun iv s3 ⟨y,H3,I3,ry,a,H4,ex,g,q3⟩=> ?_) hs;subst ex;obtain rfl:u=Value.ref a:=rx
 exact ci9 hu I3 g ry rv fun s4 I4=>⟨σ,H4,I4,q3⟩
end
theorem cp9 {P:Program}{w:World}{H:Hp}(h:Heap)(hb:sysModules < h.objs.size):q9 P w H (h.push {cls:= .type "dict",data:= .dict #[]}) h.objs.size (.dK []):=
 ⟨du3 _,beq_eq_false_iff_ne.mpr (Ne.symm (dw3 hb)),[],.nil,Heap.DictOf.new h⟩
theorem cq0 {P:Program}{w:World}{H:Hp}(h:Heap)(hb:sysModules < h.objs.size):q9 P w H (h.push {cls:= .type "dict",data:= .dict #[]}) h.objs.size (.dT []):=
 ⟨du3 _,beq_eq_false_iff_ne.mpr (Ne.symm (dw3 hb)),[],.nil,_,#[],0,Heap.get?_push_size _ rfl,⟨rfl,rfl,rfl⟩,rfl,rfl,dz9⟩
def df9:TE:=fun _ H Q=>∀p,H p=none->Q (.ref p) (c9 H p (.dK []))
def dg0:TE:=fun _ H Q=>∀p,H p=none->Q (.ref p) (c9 H p (.dT []))
section
variable {X:Cx} {pos:Pos}
theorem ac5:PE X (.Dict [] [] pos) df9:=fun pins s σ H Q I h=>
 wpAny_Dict_empty ⟨.ref s.heap.objs.size,_,I.laid (a:=s.heap.objs.size) (o:= .dK []) (t':=s.toks) (fun _ _ q=>Heap.get?_push_of_some _ q) (ds4 _) (cp9 s.heap I.big),rfl,h _ (I.hok.fresh (ds4 _))⟩
theorem cq1:PE X (.Dict [] [] pos) dg0:=fun pins s σ H Q I h=>
 wpAny_Dict_empty ⟨.ref s.heap.objs.size,_,I.laid (a:=s.heap.objs.size) (o:= .dT []) (t':=s.toks) (fun _ _ q=>Heap.get?_push_of_some _ q) (ds4 _) (cq0 s.heap I.big),rfl,h _ (I.hok.fresh (ds4 _))⟩
end
end L2
namespace Att
open PySem PySem.W PySem.Calls PyProof.Rows
theorem ay9 {P:Params}{h:Heap}:∀(ns:List Int) (vs:List Value),WellAll P h vs (ns.map WData.int)->IntsAre vs ns:=by
 intro ns
 induction ns with
 |nil=>
  intro vs w;rw[ee7] at w;cases w;exact .nil
 |cons n ns ih=>
  intro vs w;rw[du9] at w
  cases w with
  |cons a b=>
   cases a;exact .cons _ _ (ih _ b)
theorem cj2 {l:OpenLaw}{n:Nat}(hn:l.most=some n){P:Params}{h:Heap}{args:List WData}{vals:List Value}
   (hpre:l.row.toRowW.claim.pre args=true) (hwl:WellAll P h vals args):
   ∃a vs ns,vals=[Value.ref a]/\args=[WData.list (ns.map WData.int)]/\h.get? a=some {cls:= .type "list",data:= .seq vs.toArray}/\IntsAre vs ns/\ns.length<=n:=by
 have hsh:WShape.hasAll [] args [.list .int]=true:=(pre_splitW hpre).1;have hc:l.pre.holds [] {args:=args}=true:=(pre_splitW hpre).2;obtain ⟨d,r,rfl,h1,h2⟩:=hasAllW_cons hsh;obtain rfl:=hasAllW_nil h2;obtain ⟨xs,rfl,h3⟩:=hasW_list h1;obtain ⟨ns,rfl⟩:=items_int h3
 have hlen:ns.length<=n:=by
   unfold OpenLaw.pre at hc
   have h4:(WTm.not (.lt (.lit (.int (n:Int))) (.len (.arg 0)))).holds [] {args:=[.list (ns.map .int)]}=true:=by
     have h4:=(holds_andW hc).1;rw[hn] at h4;exact h4
   have h5:=condW_of h4 (w_not (w_lt w_lit (w_len_list (w_arg rfl))));rw[ds1] at h5
   refine Nat.le_of_not_lt fun q=> ?_
   have q':(n:Int) < ((ns.length:Nat):Int):=by omega
   first
     |(rw[decide_eq_true q'] at h5;exact absurd h5 (by decide))
     |(simp at h5;omega)
 cases hwl with
 |cons w1 w2=>
  cases w2
  cases w1 with
  |list ho hall=>exact ⟨_,_,ns,rfl,rfl,ho,ay9 ns _ hall,hlen⟩
theorem cj3 (l:OpenLaw)(args:List WData):l.row.toRowW.claim.post args (.bool true) args=true:=
 postW_of (r:=l.row.toRowW) (X:=(true==true))
   (show WShape.has [] (.bool true) .bool=true by first|rfl|decide|simp [WShape.has,WShape.arms,WShape.armsAll])
   (show (WTm.eq .res (.lit (.bool true))).value [] {args:=args,res:=some (.bool true),after:=args}=some (.bool (true==true)) from w_eq_bool (w_res rfl) w_lit) rfl
theorem dj7 {l:OpenLaw}{n:Nat}{q:Program}{loose:List Str}{XP:(Str->Option Value)->Heap->Prop}{YP:World->Heap->Prop}{d:DefRec}
   (hn:l.most=some n) (hdf:d.params.defaults=[])
   (call:∀(w:World) (s₀ s₁:Shared) (mg mb:Str->Option Value) (fa:Addr) (o:Obj) (pm cd doc:Value) (a:Addr) (vs:List Value) (ns:List Int),
     Ground q loose [] XP w s₀ mg mb s₁.heap->YP w s₁.heap->
     s₁.heap.get? fa=some o->o.data= .func (docDef d.name d.params d.body d.scope pm cd doc)->s₁.heap.CodeRec cd d.name->mg d.name=some (.ref fa)->
     s₁.heap.get? a=some {cls:= .type "list",data:= .seq vs.toArray}->IntsAre vs ns->ns.length<=n->s₁.gens= #[]->
     codeAny (model l.prog w) callerA (.call (.ref fa) ⟨[.ref a],[]⟩) (fun r s'=>r= .ok (.ret (.bool true))/\OldK s₁.heap s'.heap/\s'.os=s₁.os/\AllBare s'.gens) s₁):
   WalkO q loose XP YP l.row.toRowW d [] (fun f vs=>PySem.call f vs):=by
 intro w s₀ s₁ mg mb G Y fa o pm cd doc dV kV ho hd hcd hD hmg hg args vals as hpre hlay hrd hwl hlo;obtain rfl:dV= .none:=Dflts.none hD hdf;obtain rfl:kV= .none:=Dflts.noKw hD;obtain ⟨a,vs,ns,rfl,rfl,hobj,hints,hlen⟩:=cj2 hn hpre hwl;refine enter_call (codeAny_mono (call w s₀ s₁ mg mb fa o pm cd doc a vs ns G Y ho (fd_plain hd) hcd hmg hobj hints hlen hg) fun r s' hq=> ?_);obtain ⟨rfl,h2,h3,h4⟩:=hq;exact ⟨.inl ⟨.bool true,.bool true,[],rfl,fun _=>rfl,.bool true,cj3 l _,fun _=>⟨List.Pairwise.nil,fun _ hm=>(nomatch hm)⟩⟩,h2,h3,h4⟩
end Att
namespace L2
open PySem PySem.Spec PyProof.Rows
theorem ae8:∀{vs:List Value} {ns:List Int},IntsAre vs ns->m8 (ns.map V.int) vs
 |_,_,.nil=> .nil
 |_,_,.cons n t h=> .cons ⟨t,rfl⟩ (ae8 h)
def cq2 (H:Hp):Prop:=∀b,H b=none\/∃o xs,H b=some (.frz o (.lst xs))
theorem cq3 {P:Program}{w:World}{K:PySem.W.Frag}{mg mb:Str->Option Value}{CX:CXT}{k:Nat}{fa a:Addr}{fd:FuncData}{x:Str}{sp:Sp}{s₁:Shared}{vs:List Value}{ns:List Int}
   (KX:K.In s₁.heap) (hns:s₁.heap.Ns mainGlobals mg) (hb:s₁.heap.Ns builtinsNs mb) (hbb:∀x:Str,x≠"__name__"->mb x=bootBuiltins x) (hlim:s₁.heap.NoLimit) (hg:s₁.gens= #[])
   (ha:s₁.heap.get? a=some {cls:= .type "list",data:= .seq vs.toArray}) (hi:IntsAre vs ns) (hl:ns.length<=sizeLine) (hr:l6 k callerA)
   (F:∀base:Heap,K.In base->base.Ns mainGlobals mg->o7 P w K mg base CX k fa fd [x] sp) (hbind:∀(s:Shared) (u:Value),BindsTo s fd ⟨[u],[]⟩ [(x,u)])
   (hsp:∀H:Hp,cq2 H->i5 K H a (ns.map V.int)->sp [.ref a] H (fun v _=>v= .bl true) fun _ _ _=>False)
   (hCX:∀H e s',CX [] H s₁ (fun _ _ _=>False) e s'->False):
   codeAny (model P w) callerA (.call (.ref fa) ⟨[.ref a],[]⟩) (fun r s'=>r= .ok (.ret (.bool true))/\OldK s₁.heap s'.heap/\s'.os=s₁.os/\AllBare s'.gens) s₁:=by
 have rv:=ae8 hi;have lenV:=hi.length
 have core:∀H:Hp,cq2 H->i5 K H a (ns.map V.int)->E7 P w H s₁.heap->(∀b,H b≠none->b=a)->(H a≠none->K.lookup a=none)->
     codeAny (model P w) callerA (.call (.ref fa) ⟨[.ref a],[]⟩) (fun r s'=>r= .ok (.ret (.bool true))/\OldK s₁.heap s'.heap/\s'.os=s₁.os/\AllBare s'.gens) s₁:=by
   intro H hO hS hok hA hK
   have as3:∀{b:Addr} {o:Obj},s₁.heap.get? b=some o->H b=none->(aj6 s₁.heap H).get? b=some o:=fun e n=>co9 e n
   have noA:∀{b:Addr} {o:Obj} {es:Array DictEntry} {ep:Nat},s₁.heap.get? b=some o->o.data= .dict es ep->H b=none:=fun {b o es ep} e d=>by
     cases q:H b with
     |none=>rfl
     |some u=>
      have e':b=a:=hA b (by rw[q];simp);subst e';rw[ha] at e;cases e;have d':Data.seq vs.toArray _=Data.dict es ep:=d;cases d'
   have nsK:∀{b:Addr} {m:Str->Option Value},s₁.heap.Ns b m->(aj6 s₁.heap H).Ns b m:=fun {b m} ⟨o,es,ep,e,d,r⟩=>⟨o,es,ep,as3 e (noA e d),d,r⟩
   have hKb:K.In (aj6 s₁.heap H):=fun b o e=>as3 (KX b o e) (by
     cases q:H b with
     |none=>rfl
     |some u=>
      have e':b=a:=hA b (by rw[q];simp);subst e'
      rw[hK (by rw[q];simp)] at e;cases e)
   have hM:Mod K mg (aj6 s₁.heap H):=⟨hKb,nsK hns,⟨mb,nsK hb,hbb⟩,let ⟨mc,h1,h2⟩:=hlim;⟨mc,nsK h1,h2⟩⟩;have e0:cc9 P w K mg (aj6 s₁.heap H) callerA [] s₁ H:=⟨rfl,hM,fun b o e=>cy2 e,eh8 (cg9 _ _),trivial,fun b hb=>absurd (show b∈([]:List Addr) from hb) (by simp),hok,.of_eq hg⟩
   refine codeAny_mono ((F _ hKb (nsK hns)).run callerA [] s₁ H ⟨[.ref a],[]⟩ [.ref a] [.ref a] _ _ hr e0 (hbind s₁ (.ref a)) (.cons rfl .nil) (hsp H hO hS)) fun r s' h=> ?_
   cases r with
   |error e=>exact (hCX H e s' h).elim
   |ok fl=>
    cases fl with
    |next=>exact False.elim h
    |brk=>exact False.elim h
    |cont=>exact False.elim h
    |ret u=>
     obtain ⟨v,H',os,bare,un,hok',r',q⟩:=h;have q':v= .bl true:=q;subst q';obtain rfl:u=Value.bool true:=r';refine ⟨rfl,OldK.of_keep fun b o e=> ?_,os,bare⟩
     cases q:H b with
     |none=>exact un.keep b o e q (by intro z;exact absurd (show b∈([]:List Addr) from z) (by simp)) (by simp)
     |some u=>
      rcases hO b with z|⟨ob,xs,z⟩
      · rw[q] at z;cases z
      · have z2:=un.frzs b ob _ z;obtain ⟨e1,_⟩:=hok b _ z;obtain ⟨e2,_⟩:=hok' b _ z2;rw[e] at e1;cases e1;exact e2
 cases hk:K.lookup a with
 |some o=>
  have e:=KX a o hk;rw[ha] at e;cases e
  refine core (fun _=>none) (fun _=> .inl rfl) (.inr ⟨_,vs.toArray,_,hk,rfl,rfl,rfl,by rw[dt8,lenV];exact hl,by simpa using rv⟩) (fun b u z=>by have z':(none:Option HO)=some u:=z;cases z') (fun b z=>absurd rfl z) fun z=>absurd rfl z
 |none=>
  refine core (fun b=>if b=a then some (.frz {cls:= .type "list",data:= .seq vs.toArray} (.lst (ns.map V.int))) else none) (fun b=> ?_) (.inl (.inr ⟨{cls:= .type "list",data:= .seq vs.toArray},if_pos rfl⟩)) (fun b u z=> ?_) (fun b z=> ?_) fun _=>hk
  · by_cases hb:b=a
    · exact .inr ⟨_,_,if_pos hb⟩
    · exact .inl (if_neg hb)
  · by_cases hb:b=a
    · have z':=(if_pos hb).symm.trans z;cases z';subst hb;exact ⟨ha,by rw[ds1];exact hl,vs,_,rv,ha⟩
    · have z':=(if_neg hb).symm.trans z;cases z'
  · by_cases hb:b=a
    · exact hb
    · exact absurd (if_neg hb) z
end L2
namespace L2
open PySem PySem.Spec PyProof.Rows
theorem dq8 {l:PySem.W.OpenLaw}{n k:Nat}{q:Program}{loose:List Str}{XP:(Str->Option Value)->Heap->Prop}{YP:World->Heap->Prop}{d:DefRec}{K:Params->PySem.W.Frag}{CX:World->CXT}{sp:World->Sp}{x:Str}
   (hn:l.most=some n) (hn2:n<=sizeLine) (hdf:d.params.defaults=[]) (hr:l6 k callerA)
   (hY:∀(w:World) (h:Heap),YP w h->(K w.params).In h)
   (F:∀(w:World) (mg:Str->Option Value) (fa:Addr) (h:Heap),(K w.params).In h->h.Ns mainGlobals mg->mg d.name=some (.ref fa)->
     ∃fd:FuncData,(∀(s:Shared) (u:Value),BindsTo s fd ⟨[u],[]⟩ [(x,u)])/\
      ∀base:Heap,(K w.params).In base->base.Ns mainGlobals mg->o7 l.prog w (K w.params) mg base (CX w) k fa fd [x] (sp w))
   (hsp:∀(w:World) (H:Hp) (a:Addr) (ns:List Int),ns.length<=n->cq2 H->i5 (K w.params) H a (ns.map V.int)->sp w [.ref a] H (fun v _=>v= .bl true) fun _ _ _=>False)
   (hCX:∀(w:World) (H:Hp) (s:Shared) (e:Value) (s':Shared),CX w [] H s (fun _ _ _=>False) e s'->False):
   PySem.W.WalkO q loose XP YP l.row.toRowW d [] (fun f vs=>PySem.call f vs):=by
 refine Att.dj7 hn hdf fun w s₀ s₁ mg mb fa o pm cd doc a vs ns G Y ho hd hcd hmg hobj hints hlen hg=> ?_
 have KX:=hY w _ Y;obtain ⟨fd,hb,hF⟩:=F w mg fa _ KX G.T.g hmg
 exact cq3 KX G.T.g G.T.b G.T.builtins G.T.nolimit hg hobj hints (dt6 hlen hn2) hr hF hb (fun H hO hS=>hsp w H a ns hlen hO hS) fun H e s'=>hCX w H s₁ e s'
end L2
namespace L2
open PySem PySem.Spec PyProof.Rows
def ab1 (s:Stmt):Arguments:=match s with
 | .FunctionDef _ a _ _ _ _ _ _ _ _=>a
 |_=>{posonlyargs:=[],args:=[],vararg:=none,kwonlyargs:=[],kw_defaults:=[],kwarg:=none,defaults:=[]}
def W2 (s:Stmt):List Stmt:=match s with
 | .FunctionDef _ _ b _ _ _ _ _ _ _=>b
 |_=>[]
def j5 (s:Stmt):Scope:=match s with
 | .FunctionDef _ _ _ _ _ _ sc _ _ _=>sc
 |_=>{kind:= .function,names:=[],isGenerator:=false,isCoroutine:=false}
abbrev x5:CXT:=fun _ _ _ _ _ _=>False
abbrev E0:XK:=fun _ _ _=>False
theorem dl2 {X:Cx}:bn6 x5 X E0:=fun _ _ _ _ _ _ _ h=>h.elim
structure x6 (K:PySem.W.Frag)(x qual:Str)(st:Stmt)(f:Addr)(fd:FuncData):Prop where
 ex:∃(oc:Value) (od:Option Addr) (kV doc pm:Value) (an:Option Addr) (cdv ct:Value) (osl:Array (Option Value)),
   fd=PySem.W.fnOf x qual (ab1 st) (W2 st) (j5 st) .none kV doc pm an cdv ct/\K.lookup f=some ⟨oc,od,.func fd,osl⟩/\PySem.W.codeIn K cdv qual=true
 kp:PySem.W.keepIn K (.ref f)=true
section
variable {P:Program} {w:World} {K:PySem.W.Frag} {mg:Str->Option Value} {base:Heap}
theorem x6.ok {x qual:Str}{st:Stmt}{f:Addr}{fd:FuncData}{N ps:List Str}{k:Nat}{sp:Sp}(F:x6 K x qual st f fd)(S:l8 N ps (j5 st))(len:∀vs H Q E,sp vs H Q E->vs.length=ps.length)
   (hbody:∀(cdv:Value) (A:Around) (outer:List Env) (s:Shared) (H:Hp) (vs:List V) (Q:VK) (E:XK),l6 k (A.deeper (envOfC qual (j5 st) s.heap.objs.size f cdv))->sp vs H Q E->
     ∃t,X5 (bd2 x5 P w K mg base N qual (j5 st) f cdv A outer s H E).nox (W2 st) t/\t {nx:=fun _ H'=>Q .non H',rt:=Q} (aa3 N vs) H):o7 P w K mg base x5 (k+1) f fd ps sp:=by
 obtain ⟨oc,od,kV,doc,pm,an,cdv,ct,osl,rfl,lk,hcd⟩:=F.ex
 refine dk6 lk hcd S len fun A outer s H vs Q E hr hsp=> ?_
 obtain ⟨t,h,q⟩:=hbody cdv A outer s H vs Q E hr hsp;exact ⟨t,h.nox,q⟩
theorem x6.binds {x qual:Str}{st:Stmt}{f:Addr}{fd:FuncData}{ps:List Str}(F:x6 K x qual st f fd)
   (h:∀(kV doc pm:Value) (an:Option Addr) (cdv ct:Value) (us:List Value),us.length=ps.length->bindArgs (PySem.W.fnOf x qual (ab1 st) (W2 st) (j5 st) .none kV doc pm an cdv ct) ⟨us,[]⟩=pure (ps.zip us)):aj7 K fd ps []:=by
 obtain ⟨oc,od,kV,doc,pm,an,cdv,ct,osl,rfl,lk,hcd⟩:=F.ex;exact .all (h kV doc pm an cdv ct)
theorem dg1 {x qual:Str}{st:Stmt}{f:Addr}{oc:Value}{od an:Option Addr}{osl:Array (Option Value)}{kV doc pm cdv ct:Value}(l:K.lookup f=some ⟨oc,od,.func (PySem.W.fnOf x qual (ab1 st) (W2 st) (j5 st) .none kV doc pm an cdv ct),osl⟩)
 (c:PySem.W.codeIn K cdv qual=true) (k:PySem.W.keepIn K (.ref f)=true):x6 K x qual st f (PySem.W.fnOf x qual (ab1 st) (W2 st) (j5 st) .none kV doc pm an cdv ct):=⟨⟨oc,od,kV,doc,pm,an,cdv,ct,osl,rfl,l,c⟩,k⟩
end
theorem X1 {A:Around}{k:Nat}(hr:l6 k A):A.units+1 < cLine:=dw0 (Nat.add_le_add_left (by decide:1<=64) _) hr.units
theorem o9 {n:Nat}(h:n<=1000):n < sizeLine:=dw0 h (by decide)
section
variable {X:Cx}
theorem pv (i:Nat){x:Str}{pos:Pos}(hN:X.N[i]? =some x:=by rfl)(hv:Vis X.env.scope x:=by first|exact Or.inl rfl|exact Or.inr (Or.inl rfl)|exact Or.inr (Or.inr rfl))(hd:(x==("__debug__":Str))=false:=by decide)
 (hcd:(x==("__classdict__":Str))=false:=by decide):PE X (.Name x pos) (dd9 i):=de0 hN hv hd hcd
end
theorem G5 {A B:Prop}(h:B):if false=true then A else B:=by
 rw[if_neg dv3];exact h
theorem ac6 {A B:Prop}(h:A):if true=true then A else B:=by
 rw[if_pos rfl];exact h
theorem M6 {c A B:Prop}[Decidable c](h1:c->A)(h2:¬c->B):if c then A else B:=by
 by_cases h:c
 · rw[if_pos h];exact h1 h
 · rw[if_neg h];exact h2 h
theorem aq8 {c A B:Prop}[Decidable c](hc:c)(h:B):if (!decide c)=true then A else B:=by
 rw[decide_eq_true hc];exact G5 h
def e8 (H H':Hp):Prop:=∀b o,H b=some o->H' b=some o
theorem e8.refl (H:Hp):e8 H H:=fun _ _ h=>h
theorem e8.trans {H H1 H2:Hp}(a:e8 H H1)(b:e8 H1 H2):e8 H H2:=fun c o h=>b c o (a c o h)
theorem e8.free {H H':Hp}(e:e8 H H'){l:Addr}(h:H' l=Option.none):H l=Option.none:=by
 cases q:H l with
 |none=>rfl
 |some o=>
  rw[e l o q] at h;cases h
section
variable {κ:Type} [DecidableEq κ]
theorem cz4 {kvs:List (κ×V)}{k:κ}{v:V}(h:A7 kvs k=some v):k∈kvs.map (·.1):=by
 have q:(kvs.any fun kv=>decide (kv.1=k))=true:=by
   rw[ac4,h]
   all_goals rfl
 obtain ⟨p,hp,e⟩:=ei2.mp q;exact dt0.mpr ⟨p,hp,of_decide_eq_true e⟩
theorem aq9:∀{l:List κ} {k:κ},l.Nodup->¬k∈l->(l++[k]).Nodup
 |[],k,_,_=>by simp
 |a::r,k,h,hk=>by
  obtain ⟨h1,h2⟩:=dw4.mp h;show (a::(r++[k])).Nodup;refine dw4.mpr ⟨fun m=> ?_,aq9 h2 fun m=>hk (dt7.mpr (Or.inr m))⟩
  rcases dt4.mp m with q|q
  · exact h1 q
  · exact hk (dt7.mpr (Or.inl (dt3.mp q).symm))
end
end L2
namespace L2
open PySem PySem.Spec PyProof.Rows
def R7 (X:Cx)(N:List Str)(scope:Scope)(cl:List (Str×Addr))(C:Addr)(s0:Shared)(H0:Hp)(ex:List Addr):Cx:=
 {X with N:=N,s₀:=s0,H₀:=H0,env:=compEnvC scope cl C X.env,outer:=X.stack,stack:=X.stack,ex:=ex,fn:=fun _=>false,pn:=[],xe:=fun _ _=>False}
def az0 (nl:Nat)(fr:List Nat)(σ:St):St:=dw8 nl none++fr.map fun j=>(σ[j]?).join
def B0 (env:Env):List (Str×NameKind)->List (Str×Addr)->List (Str×Addr)
 |[],cs=>cs
 |(n,k)::r,cs=>B0 env r (if (k==NameKind.free)=true then (n,(env.cells.lookup n).getD 0)::cs else cs)
theorem az1 (env:Env):∀(ns:List (Str×NameKind)) (cs:List (Str×Addr)),(∀p∈ns,p.2= .free->∃c,env.cells.lookup p.1=some c)->(∀y c,cs.lookup y=some c->env.cells.lookup y=some c)->
   ∀y c,(B0 env ns cs).lookup y=some c->env.cells.lookup y=some c
 |[],cs,_,h,y,c,e=>h y c e
 |(n,k)::r,cs,hn,h,y,c,e=>by
  unfold B0 at e;refine az1 env r _ (fun p hp=>hn p (ds6 _ hp)) ?_ y c e;intro z d ez
  split at ez
  · rename_i hk;rw[ea0] at ez
    cases hz:z==n with
    |true=>
     rw[hz] at ez;have hzn:z=n:=eq_of_beq hz;subst hzn
     have hkf:k= .free:=by simpa using hk
     obtain ⟨c',hc'⟩:=hn (z,k) ds5 hkf;have hc':env.cells.lookup z=some c':=hc';rw[hc'] at ez;rw[hc']
     simpa using ez
    |false=>
     rw[hz] at ez;exact h z d ez
  · exact h z d ez
theorem at3 (env:Env):∀(ns:List (Str×NameKind)) (cs:List (Str×Addr)) (y:Str),(∃c,cs.lookup y=some c)->∃c,(B0 env ns cs).lookup y=some c
 |[],cs,y,h=>h
 |(n,k)::r,cs,y,⟨c,h⟩=>by
  unfold B0;refine at3 env r _ y ?_
  split
  · rw[ea0]
    cases hz:y==n with
    |true=>exact ⟨_,rfl⟩
    |false=>exact ⟨c,h⟩
  · exact ⟨c,h⟩
theorem aj9 (env:Env):∀(ns:List (Str×NameKind)) (cs:List (Str×Addr)) (p:Str×NameKind),p∈ns->p.2= .free->∃c,(B0 env ns cs).lookup p.1=some c
 |[],cs,p,hp,_=>by simp at hp
 |(n,k)::r,cs,p,hp,hk=>by
  unfold B0
  rcases dt7.mp hp with e|hp
  · subst e;have hk:k= .free:=hk;subst hk;refine at3 env r _ n ?_;rw[if_pos (by rfl),ea0];exact ⟨(List.lookup n env.cells).getD 0,by simp⟩
  · exact aj9 env r _ p hp hk
theorem an6 (env:Env):∀(ns:List (Str×NameKind)) (cs:List (Str×Addr)),(∀p∈ns,p.2= .free->∃c,env.cells.lookup p.1=some c)->
   (forIn ns cs (fun (x:Str×NameKind) (r:List (Str×Addr))=>if (x.2==NameKind.free)=true then (do let a <-cellOf env x.1;pure (ForInStep.yield ((x.1,a)::r))) else pure (ForInStep.yield r)):Sem (List (Str×Addr)))=pure (B0 env ns cs)
 |[],cs,_=>rfl
 |(n,k)::r,cs,hn=>by
  have ih:=fun cs'=>an6 env r cs' fun p hp=>hn p (ds6 _ hp)
  rw[List.forIn_cons];unfold B0
  by_cases hk:(k==NameKind.free)=true
  · obtain ⟨c,hc⟩:=hn (n,k) ds5 (by simpa using hk);have hc:env.cells.lookup n=some c:=hc;rw[if_pos hk,if_pos hk]
    have e1:cellOf env n=pure c:=by unfold cellOf;rw[hc]
    rw[e1,hc];exact ih _
  · rw[if_neg hk,if_neg hk];exact ih _
theorem am7 {scope:Scope}{env:Env}(h:∀p∈scope.names,p.2= .free->∃c,env.cells.lookup p.1=some c):closureFor scope env=pure (B0 env scope.names []):=by
 have e:=an6 env scope.names [] h;unfold closureFor;show (forIn scope.names [] _ >>=_)=_;have e2:(forIn scope.names ([]:List (Str×Addr)) (fun (x:Str×NameKind) (r:List (Str×Addr))=>match x with|(name,kind)=>(if (kind==NameKind.free)=true then (do let a <-cellOf env name;pure PUnit.unit;pure (ForInStep.yield ((name,a)::r))) else (do pure PUnit.unit;pure (ForInStep.yield r)))):Sem (List (Str×Addr)))=pure (B0 env scope.names []):=e
 first
   |exact (congrArg (fun z=>z >>=fun cs=>pure cs) e2)
   |(rw[show (forIn scope.names ([]:List (Str×Addr)) _:Sem (List (Str×Addr)))=pure (B0 env scope.names []) from e];rfl)
section
variable {X:Cx}
def bo2 (X:Cx)(ifs:List Expr)(t:TT):Prop:=
 ∀(pins:List (Addr×Obj)) (s:Shared) (σ:St) (H:Hp) (Q:Bool->Hp->Prop),g9 X pins σ H s->t σ H Q->
  wpAny (model X.prog X.w) X.A (forIn ifs true fun c r=>if r=true then do let ok <-isTrue c X.env (eval c X.env);pure (ForInStep.yield ok) else pure (ForInStep.yield r)) (TP X pins σ Q) X.xe s
def dq3:TT:=fun _ H Q=>Q true H
theorem cq4:bo2 X [] dq3:=fun pins s σ H Q I h=>by
 rw[List.forIn_nil];exact wpAny_pure ⟨H,I,h⟩
theorem av0 {c:Expr}{t:TT}(h:PT X c t):bo2 X [c] t:=by
 intro pins s σ H Q I hw;rw[List.forIn_cons,if_pos rfl];refine wpAny_bind (wpAny_bind (p6 (h pins s σ H Q I hw) fun b s1 q=>wpAny_pure ?_));show wpAny _ _ (forIn [] b _) _ _ s1;rw[List.forIn_nil];exact wpAny_pure q
theorem bo3 {prog:Program}{w:World}{A:Around}{R:Result->Shared->Prop}{s:Shared}{elt target iter:Expr}{ifs:List Expr}{scope:Scope}{pos:Pos}{it acc:Value}{env:Env}(I:Nat->Shared->Prop)
   (turn:∀n s,I n s->wpAny (model prog w) A (pyNext it) (fun r s1=>match r with
     |none=>R (.ok .next) s1
     |some v=>wpAny (model prog w) A (letOwnedTupleGo target it v) (fun _ s2=>wpAny (model prog w) A (assign target env v) (fun _ s3=>
         wpAny (model prog w) A (forIn ifs true fun c r=>if r=true then do let ok <-isTrue c env (eval c env);pure (ForInStep.yield ok) else pure (ForInStep.yield r)) (fun ok s4=>
           if ok=true then wpAny (model prog w) A (eval elt env) (fun x s5=>
             wpAny (model prog w) A (call (.builtin "list.append") [acc,x]) (fun _ s6=>∃m,m < n/\I m s6) (fun _ _=>False) s5) (fun _ _=>False) s4
           else ∃m,m < n/\I m s4) (fun _ _=>False) s3) (fun _ _=>False) s2) (fun _ _=>False) s1) (fun _ _=>False) s)
   (n:Nat) (h:I n s):
   codeAny (model prog w) A (.compLoop (.ListComp elt [⟨target,iter,ifs,0⟩] scope pos) 0 it acc env) R s:=by
 refine codeAny_loop rfl I (fun n s hI=> ?_) n h;show wpAny _ A ((compTurn (.ListComp elt [⟨target,iter,ifs,0⟩] scope pos) 0 it acc env).onRaise (fun x=>do noteFrame x env;theTreesLotGoes x)) _ _ s;refine wpAny_noted ?_;rw[compTurn_list];refine wpAny_bind (wpAny_standAt (wpAny_bind (wpAny_mono (turn n s hI) (fun r s1 h1=> ?_) fun _ _ f=>f.elim)))
 cases r with
 |none=>exact wpAny_pure h1
 |some v=>
  refine wpAny_bind (wpAny_mono h1 (fun _ s2 h2=> ?_) fun _ _ f=>f.elim);refine wpAny_bind (wpAny_mono h2 (fun _ s3 h3=>wpAny_bind (wpAny_mono h3 (fun ok s4 h4=> ?_) fun _ _ f=>f.elim)) fun _ _ f=>f.elim)
  cases ok with
  |false=>exact wpAny_pure ⟨rfl,h4⟩
  |true=>
   exact wpAny_bind (wpAny_bind (wpAny_mono h4 (fun x s5 h5=>wpAny_bind (wpAny_mono h5 (fun _ s6 h6=>wpAny_pure (wpAny_pure ⟨rfl,h6⟩)) fun _ _ f=>f.elim)) fun _ _ f=>f.elim))
def cd2 (J:It)(g:TG)(tc:TT)(te:TE)(Q:VK)(σ0:St)(H0:Hp):Prop:=∃W:Nat->Nat->List V->St->Hp->Prop,(∃m,W 0 m [] σ0 H0)/\∀i m ys σ' H',W i m ys σ' H'->
 (J.stop i H'/\∀D,H' D=none->Q (.ref D) (c9 H' D (.lst ys)))\/
 (J.go i H'/\∃N:List V->St->Hp->Prop,(∀ys' σ2 H2,N ys' σ2 H2->∃m',m' < m/\W (i+1) m' ys' σ2 H2)/\∀x H2,J.yld i H' x H2->g x σ' H2 fun σ2 H3=>tc σ2 H3 fun b H4=>
   if b=true then te σ2 H4 fun y H5=>ys.length < sizeLine/\N (ys++[y]) σ2 H5 else N ys σ2 H4)
def cd3 (nl:Nat)(fr:List Nat)(wi:TI)(g:TG)(tc:TT)(te:TE):TE:=fun σ H Q=>wi σ H fun J H1=>cd2 J g tc te Q (az0 nl fr σ) H1
structure an7 (X:Cx)(N:List Str)(nl:Nat)(fr:List Nat)(scope:Scope):Prop where
 cell:∀y∈scope.names,y.2≠.cell
 kind:scope.kind= .function
 names:∀y∈scope.names,y.2= .local->scope.names.lookup y.1=some .local
 free:∀p∈scope.names,p.2= .free->X.env.kindOf p.1=some .cell\/X.env.kindOf p.1=some .free
 len:N.length=nl+fr.length
 fr:∀(k j:Nat),fr[k]? =some j->∃y,N[nl+k]? =some y/\X.N[j]? =some y/\Vis X.env.scope y/\scope.names.lookup y=some .free
theorem W3 {env:Env}:∀{names:List (Str×NameKind)} {x:Str} {k:NameKind},(names.map fun (n,k)=>if (k==NameKind.free&&env.scope.kind== .function&&env.kindOf n==some .cell) then (n,NameKind.cell) else (n,k)).lookup x=some k->
   k= .cell\/k= .free->(∀y∈names,y.2≠.cell)->∃p∈names,p.1=x/\p.2= .free
 |[],_,_,h,_,_=>by simp at h
 |(n,kn)::r,x,k,h,hk,hc=>by
  have ih:=@W3 env r x k;rw[du9] at h;have hcn:kn≠.cell:=hc (n,kn) ds5
  have hr:∀y∈r,y.2≠.cell:=fun y hy=>hc y (ds6 _ hy)
  cases hx:x==n with
  |true=>
   have hxn:x=n:=eq_of_beq hx
   by_cases hcc:(kn==NameKind.free&&env.scope.kind== .function&&env.kindOf n==some .cell)=true
   · refine ⟨(n,kn),ds5,hxn.symm,?_⟩;simp only[ed8] at hcc
     simpa using hcc.1.1
   · dsimp only at h
     rw[if_neg hcc,ea0,hx] at h;have hkk:kn=k:=Option.some.inj h;subst hkk
     rcases hk with z|z
     · exact absurd z hcn
     · exact ⟨(n,kn),ds5,hxn.symm,z⟩
  |false=>
   by_cases hcc:(kn==NameKind.free&&env.scope.kind== .function&&env.kindOf n==some .cell)=true
   · dsimp only at h
     rw[if_pos hcc,ea0,hx] at h;obtain ⟨p,hp,q⟩:=ih h hk hr;exact ⟨p,ds6 _ hp,q⟩
   · dsimp only at h
     rw[if_neg hcc,ea0,hx] at h;obtain ⟨p,hp,q⟩:=ih h hk hr;exact ⟨p,ds6 _ hp,q⟩
theorem V8 {env:Env}:∀{names:List (Str×NameKind)} {x:Str},names.lookup x=some .free->
   (names.map fun (n,k)=>if (k==NameKind.free&&env.scope.kind== .function&&env.kindOf n==some .cell) then (n,NameKind.cell) else (n,k)).lookup x=some .cell\/
   (names.map fun (n,k)=>if (k==NameKind.free&&env.scope.kind== .function&&env.kindOf n==some .cell) then (n,NameKind.cell) else (n,k)).lookup x=some .free
 |[],_,h=>by simp at h
 |(n,kn)::r,x,h=>by
  have ih:=@V8 env r x;rw[du9]
  dsimp only
  cases hx:x==n with
  |true=>
   rw[ea0,hx] at h;have hkn:kn= .free:=Option.some.inj h
   by_cases hcc:(kn==NameKind.free&&env.scope.kind== .function&&env.kindOf n==some .cell)=true
   · rw[if_pos hcc,ea0,hx];exact .inl rfl
   · rw[if_neg hcc,ea0,hx];exact .inr (congrArg some hkn)
  |false=>
   rw[ea0,hx] at h
   by_cases hcc:(kn==NameKind.free&&env.scope.kind== .function&&env.kindOf n==some .cell)=true
   · rw[if_pos hcc,ea0,hx];exact ih h
   · rw[if_neg hcc,ea0,hx];exact ih h
theorem E7.track {P:Program}{w:World}{H:Hp}{h:Heap}{a:Addr}{o:HO}(x:E7 P w H h)(hn:H a=none)(new:q9 P w (c9 H a o) h a o):E7 P w (c9 H a o) h:=fun b u e=>by
 by_cases hb:b=a
 · subst hb;rw[c8] at e;cases e;exact new
 · rw[g8 hb] at e
   exact (x b u e).stay (fun c v _ q=>q) (fun c q=>by rw[g8 (g6 q hn)];exact q) fun c xs q=>by rw[g8 (g6 q hn)];exact q
theorem bi1 {elt tg iter:Expr}{ifs:List Expr}{scope:Scope}{pos:Pos}{wi:TI}{g:TG}{tc:TT}{te:TE}{N:List Str}{nl:Nat}{fr:List Nat}
   (hc:X.calm=true) (hi:PI X tg iter wi) (hg:∀cl C s0 H0 ex,PG (R7 X N scope cl C s0 H0 ex) tg g) (ht:∀cl C s0 H0 ex,bo2 (R7 X N scope cl C s0 H0 ex) ifs tc)
   (he:∀cl C s0 H0 ex,PE (R7 X N scope cl C s0 H0 ex) elt te) (ok:an7 X N nl fr scope)
   {RR:Value->Addr->Result->Shared->Prop} {pins:List (Addr×Obj)} {s:Shared} {σ:St} {H:Hp} {Q:VK} (I:g9 X pins σ H s) (h:cd3 nl fr wi g tc te σ H Q)
   (hRR:∀D C s' H',g9 X pins σ H' s'->Q (.ref D) H'->an3 X pins H' C->(∃m,s'.heap.Ns C m)->RR (.ref D) C (.ok .next) s'):
   wpAny (model X.prog X.w) X.A (eval iter X.env) (fun x s1=>wpAny (model X.prog X.w) X.A (pyIter x) (fun it s2=>wpAny (model X.prog X.w) X.A (newList []) (fun acc s3=>
     wpAny (model X.prog X.w) X.A (newFunctionEnv scope X.env.globals (B0 X.env scope.names []) [] X.env.qual none .none (some X.env)) (fun cenv s4=>
       codeAny (model X.prog X.w) X.A (.compStart (.ListComp elt [⟨tg,iter,ifs,0⟩] scope pos) 0 it acc {cenv with scope:=relabel scope X.env}) (RR acc cenv.locals) s4) X.xe s3) X.xe s2) X.xe s1) X.xe s:=by
 refine p6 (hi pins s σ H _ I h) fun v s1 h1=>p6 h1 fun itv s2 h2=> ?_
 obtain ⟨it,fp,tn,J,H2,rfl,I2,T,st2,f2,W,⟨m0,w0⟩,turn⟩:=h2;refine wpAny_newObj_type (wpAny_newFunctionEnv ok.cell (by intro y hy;simp at hy) (fun h1 hns1 hsb1=> ?_) ok.kind)
 dsimp only at hns1 hsb1 ⊢
 generalize hHH:s2.heap.push {cls:= .type "list",dict:=none,data:= .seq ([]:List Value).toArray}=HH at hns1 hsb1 ⊢
 have hC:HH.objs.size=s2.heap.objs.size+1:=by rw[<-hHH,Heap.size_push]
 have hDC:s2.heap.objs.size≠HH.objs.size:=by rw[hC];exact dw3 (Nat.lt_succ_self _)
 have hCle:s2.heap.objs.size<=HH.objs.size:=by rw[hC];exact ei7 _
 have below:∀b,b < s2.heap.objs.size->b≠HH.objs.size/\b≠s2.heap.objs.size:=fun b hb=>⟨by rw[hC];exact dw3 (ef3 hb),dw3 hb⟩
 have old:∀b o,s2.heap.get? b=some o->h1.get? b=some o:=fun b o e=>hsb1.extBut b o (below b (Heap.lt_size e)).1 (Heap.get?_push_of_some _ (hHH▸Heap.get?_push_of_some _ e))
 have hacc:h1.get? s2.heap.objs.size=some {cls:= .type "list",data:= .seq ([]:List Value).toArray}:=hsb1.extBut _ _ hDC (Heap.get?_push_of_some _ (hHH▸Heap.get?_push_size _ rfl))
 have fplt:∀b∈fp,b < s2.heap.objs.size:=fun b hb=>by obtain ⟨o,e,_⟩:=T.obj 0 _ st2 b hb;exact Heap.lt_size e
 generalize hXd:R7 X N scope (B0 X.env scope.names []) HH.objs.size s2 H2 fp=X'
 have hfreeC:∀p∈scope.names,p.2= .free->∃c,X.env.cells.lookup p.1=some c:=fun p hp hf=>I.ok.has p.1 (ok.free p hp hf)
 have cellsSub:∀y c,(B0 X.env scope.names []).lookup y=some c->X.env.cells.lookup y=some c:=az1 X.env scope.names [] hfreeC (fun y c e=>by simp at e)
 have cellLt:∀y c,X.env.cells.lookup y=some c->c < s2.heap.objs.size:=fun y c e=>by obtain ⟨v,z⟩:=I2.cell y c e;exact z.lt
 have ok':X'.Ok:=by
   rw[<-hXd]
   refine ⟨I.ok.mod,?_,I.ok.glob,I.ok.blt,hCle,fun x y c e1 e2=>I.ok.inj x y c (cellsSub x c e1) (cellsSub y c e2),fun x hx=> ?_,fun x c hf=>(by cases hf),I.ok.hd,I.ok.frames,.inl rfl,
     fun b hb=>⟨(below b (fplt b hb)).1,fun x c e=>(f2 b hb).2.2.2.2.1 x c (cellsSub x c e)⟩,I2.bs,dt6 I.ok.bsz I2.sz,fun b o e hb=> ?_,fun b hb hfs=> ?_,I2.stack,I2.stkFree⟩
   · show (relabel scope X.env).kind= .function;exact ok.kind
   · have hx':∃p∈scope.names,p.1=x/\p.2= .free:=by
       rcases hx with z|z
       · exact W3 z (.inl rfl) ok.cell
       · exact W3 z (.inr rfl) ok.cell
     obtain ⟨p,hp,rfl,hpf⟩:=hx';exact aj9 X.env scope.names [] p hp hpf
   · rcases (f2 b hb).2.2.2.1 with z|z
     · exact I.ok.noex b o e z
     · exact absurd (dx4 (Heap.lt_size e) (dt6 I.ok.bsz z)) (ea8 _)
   · rcases dt7.mp (I2.stkSub b hfs) with z|z
     · exact (f2 b hb).2.1 z
     · exact (f2 b hb).2.2.1 z
 have hX'd:X'.env.locals=HH.objs.size:=by rw[<-hXd];rfl
 have hX'c:X'.env.cells=B0 X.env scope.names []:=by rw[<-hXd];rfl
 have hX'pn:X'.pn=[]:=by rw[<-hXd];rfl
 have hX'ex:X'.ex=fp:=by rw[<-hXd];rfl
 have hX's0:X'.s₀=s2:=by rw[<-hXd];rfl
 have hX'H0:X'.H₀=H2:=by rw[<-hXd];rfl
 have hX'fs:X'.fs=frs X.stack:=by rw[<-hXd];rfl
 have hX'xe:X'.xe=fun _ _=>False:=by rw[<-hXd];rfl
 have hX'A:X'.A=X.A:=by rw[<-hXd];rfl
 have hX'P:X'.prog=X.prog:=by rw[<-hXd];rfl
 have hX'w:X'.w=X.w:=by rw[<-hXd];rfl
 have hX'K:X'.K=X.K:=by rw[<-hXd];rfl
 have hX'calm:X'.calm=true:=by rw[<-hXd];exact hc
 have hX'env:X'.env=compEnvC scope (B0 X.env scope.names []) HH.objs.size X.env:=by rw[<-hXd];rfl
 have I':g9 X' [] (az0 nl fr σ) H2 {s2 with heap:=h1,toks:=s2.toks+([]:List (Str×Value)).length}:=by
   refine ⟨ok',by rw[hX's0],I2.bare,?_,?_,fun x c e=> ?_,?_,fun x c e=> ?_,fun p hp=> ?_,?_,?_⟩
   · rw[hX'fs,hX'ex,hX'H0,hX's0];exact Un.kept old
   · obtain ⟨m,hn,hl⟩:=I2.loc;rw[hX'd];refine ⟨_,hns1,fun i x v e1 e2 e3=> ?_⟩
     have hN':N[i]? =some x:=by rw[<-hXd] at e1;exact e1
     unfold az0 at e2
     have hi:¬i < nl:=fun hlt=>by
       rw[dv8 (by simpa using hlt),en3,if_pos hlt] at e2;cases e2
     rw[dw7 (by simpa using hi),ee3,ds9] at e2
     cases ej:fr[i - nl]? with
     |none=>rw[ej] at e2;cases e2
     |some j=>
      rw[ej] at e2;obtain ⟨y,y1,y2,y3,y4⟩:=ok.fr (i - nl) j ej
      have hii:nl+(i - nl)=i:=by omega
      rw[hii,hN'] at y1;have hxy:x=y:=Option.some.inj y1;subst hxy;have e2':(σ[j]?).join=some v:=Option.some.inj e2
      have e2'':σ[j]? =some (some v):=by
        cases hσ:σ[j]? with
        |none=>rw[hσ] at e2';cases e2'
        |some z=>rw[hσ] at e2';exact congrArg some e2'
      obtain ⟨u,r,l⟩:=hl j x v y2 e2'' y3;have hkX:=ok.free (x,.free) (PySem.mem_of_lookup y4) rfl;refine ⟨u,r,.inr ⟨?_,?_⟩⟩
      · rw[hX'env]
        rcases V8 (env:=X.env) y4 with z|z
        · exact .inl z
        · exact .inr z
      · rcases l with ⟨k1,_⟩|⟨_,c,ec,hcell⟩
        · rcases hkX with z|z
          · rw[z] at k1;cases k1
          · rw[z] at k1;cases k1
        · obtain ⟨c',ec'⟩:=aj9 X.env scope.names [] (x,.free) (PySem.mem_of_lookup y4) rfl
          have:c'=c:=by
            have q:=cellsSub x c' ec';rw[ec] at q;exact (Option.some.inj q).symm
          subst this;refine ⟨c',by rw[hX'c];exact ec',?_⟩;obtain ⟨oc,ho,hd⟩:=hcell;exact ⟨oc,old _ _ ho,hd⟩
   · rw[hX'c] at e;obtain ⟨v,oc,ho,hd⟩:=I2.cell x c (cellsSub x c e);exact ⟨v,oc,old _ _ ho,hd⟩
   · rw[hX'd];exact I2.hok.fresh hCle
   · rw[hX'c] at e;exact I2.freeC x c (cellsSub x c e)
   · rw[hX'pn] at hp;simp at hp
   · rw[hX'P,hX'w];exact I2.hok.kept old
   · unfold az0
     have:X'.N=N:=by rw[<-hXd];rfl
     rw[this,ok.len,ds8,ee3,ds1]
 have Dn:∀{H':Hp} {pins'} {s':Shared} {σ'},g9 X' pins' σ' H' s'->H' s2.heap.objs.size=none->∀o,s'.heap.get? s2.heap.objs.size=some o->(∀v,o.data≠.cell v)->g9 X' [(s2.heap.objs.size,o)] σ' H' s':=fun {H' pins' s' σ'} I3 hD o ho hnc=>
   I3.pins_of fun p hp=>by
     have e:p=(s2.heap.objs.size,o):=by simpa using hp
     subst e;refine ⟨ho,hD,by rw[hX'd];exact hDC,?_,hnc⟩;rw[hX'fs];intro hb
     rcases dt7.mp (I2.stkSub _ hb) with z|z
     · exact absurd (z▸I2.lt) (ea8 _)
     · exact I2.nofs (ds4 _) z
 have loop:∀s₃:Shared,s₃={s2 with heap:=h1,toks:=s2.toks+([]:List (Str×Value)).length}->
     codeAny (model X.prog X.w) X.A (.compLoop (.ListComp elt [⟨tg,iter,ifs,0⟩] scope pos) 0 (.ref it) (.ref s2.heap.objs.size) (compEnvC scope (B0 X.env scope.names []) HH.objs.size X.env)) (RR (.ref s2.heap.objs.size) HH.objs.size) s₃:=by
   rintro s₃ rfl
   refine bo3 (fun n s'=>∃(i:Nat) (σ':St) (H':Hp) (ys:List V) (its:List Value) (k:Nat),g9 X' [(s2.heap.objs.size,{cls:= .type "list",data:= .seq its.toArray k})] σ' H' s'/\m8 ys its/\ys.length<=sizeLine/\tn i s'.heap/\(∀b∈fp,H' b=none)/\W i n ys σ' H')
     ?_ m0 ⟨0,_,H2,[],[],0,Dn I' (I2.hok.fresh (ds4 _)) _ hacc (fun v z=>by cases z),.nil,du3 _,T.keep 0 _ _ st2 fun b hb o e=>old b o e,fun b hb=>(f2 b hb).1,w0⟩
   rintro n s3 ⟨i,σ3,H3,ys,its,k,I3,rv,hyl,st3,fr3,w3⟩;have pinD:=I3.pin (s2.heap.objs.size,{cls:= .type "list",data:= .seq its.toArray k}) (by rw[hX'pn];exact dv5 _ ds5)
   have stat:∀{o:Obj} {H':Hp},(∀b∈fp,H' b=none)->∀b∈fp,an3 X' [(s2.heap.objs.size,o)] H' b:=fun {o H'} hn b hb=>by
     refine ⟨hn b hb,by rw[hX'd];exact (below b (fplt b hb)).1,fun z=>ok'.exfs b (by rw[hX'ex];exact hb) z,.inl (by rw[hX'ex];exact hb),fun x c e=>by rw[hX'c] at e;exact (f2 b hb).2.2.2.2.1 x c (cellsSub x c e),fun p hp=> ?_⟩;rw[hX'pn] at hp
     have e:p=(s2.heap.objs.size,o):=by simpa using hp
     subst e
     exact fun z=>(below b (fplt b hb)).2 z.symm
   rcases turn i n ys σ3 H3 w3 with ⟨stop,qn⟩|⟨go,Nx,hNx,step⟩
   · have dn:=T.done X' hX'P hX'w hX'K hX'calm i _ s3 σ3 H3 (fun _ _=>False) I3 (stat fr3) st3 stop;rw[hX'A] at dn
     refine p6 dn fun r s4 ⟨hr,I4⟩=> ?_
     subst hr;have pinE:=I4.pin (s2.heap.objs.size,{cls:= .type "list",data:= .seq its.toArray k}) (by rw[hX'pn];exact dv5 _ ds5)
     have ub:Un (frs X.stack) fp H2 H3 s2.heap s4.heap:=by
       have:=I4.base;rw[hX'fs,hX'ex,hX'H0,hX's0] at this;exact this
     have hok4:E7 X.prog X.w H3 s4.heap:=by have:=I4.hok;rw[hX'P,hX'w] at this;exact this
     have nD:∀b u,H3 b=some u->b≠s2.heap.objs.size:=fun b u e z=>by rw[z,pinE.2.1] at e;cases e
     have u2:Un (frs X.stack) fp H2 (c9 H3 s2.heap.objs.size (.lst ys)) s2.heap s4.heap:=
       ⟨ub.keep,ub.slot,fun b o e n' hx=>by rw[g8 (dw3 (Heap.lt_size e))];exact ub.free b o e n' hx,ub.there,
         fun b xs e=>by have:=ub.tups b xs e;rw[g8 (nD b _ this)];exact this,fun b o u e=>by have:=ub.frzs b o u e;rw[g8 (nD b _ this)];exact this,
         fun b ps e=>by obtain ⟨more,z⟩:=ub.tbls b ps e;exact ⟨more,by rw[g8 (nD b _ z)];exact z⟩⟩
     have I5:g9 X pins σ (c9 H3 s2.heap.objs.size (.lst ys)) s4:=by
       refine I2.call' (by rw[I4.os,hX's0]) u2 ?_ I4.bare fun b hb=>⟨(f2 b hb).2.2.2.1,(f2 b hb).2.1,(f2 b hb).2.2.2.2.1,(f2 b hb).2.2.2.2.2⟩
       exact E7.track hok4 pinE.2.1 ⟨hyl,its,k,rv,pinE.1⟩
     refine hRR _ _ s4 _ I5 (qn _ pinE.2.1) (I2.fpOk hCle ?_) ?_
     · rw[g8 (Ne.symm hDC)];have:=I4.free;rw[hX'd] at this;exact this
     · obtain ⟨m,hn,_⟩:=I4.loc;rw[hX'd] at hn;exact ⟨m,hn⟩
   · have im:=T.item X' hX'P hX'w hX'K hX'calm i _ s3 σ3 H3 (fun _ _=>False) I3 (stat fr3) st3 go;rw[hX'A] at im
     refine p6 im fun r s4 ⟨u,hr,h4⟩=> ?_
     subst hr
     refine p6 h4 fun _ s5 ⟨x,H5,I5,r5,y5,st5,fr5⟩=> ?_
     have I5':=I5.pinned (stat fr5) (T.obj _ _ st5);have gg:=hg (B0 X.env scope.names []) HH.objs.size s2 H2 fp;rw[hXd] at gg;have gg:=gg _ s5 σ3 H5 x u _ I5' r5 (step x H5 y5);rw[hX'A,hX'P,hX'w,hX'xe,hX'env] at gg
     refine p6 gg fun _ s6 ⟨σ6,H6,I6,q6⟩=> ?_
     have tt:=ht (B0 X.env scope.names []) HH.objs.size s2 H2 fp;rw[hXd] at tt;have tt:=tt _ s6 σ6 H6 _ I6 q6;rw[hX'A,hX'P,hX'w,hX'xe,hX'env] at tt
     refine p6 tt fun ok7 s7 ⟨H7,I7,q7⟩=> ?_
     have again:∀{s8:Shared} {σ8:St} {H8:Hp} {ys8:List V} {its8:List Value} {k8:Nat},g9 X' ([(s2.heap.objs.size,{cls:= .type "list",data:= .seq its8.toArray k8})]++ac1 fp s5.heap) σ8 H8 s8->m8 ys8 its8->ys8.length<=sizeLine->Nx ys8 σ8 H8->
         ∃m,m < n/\∃(i:Nat) (σ':St) (H':Hp) (ys:List V) (its:List Value) (k:Nat),g9 X' [(s2.heap.objs.size,{cls:= .type "list",data:= .seq its.toArray k})] σ' H' s8/\m8 ys its/\ys.length<=sizeLine/\tn i s8.heap/\(∀b∈fp,H' b=none)/\W i m ys σ' H':=
       fun {s8 σ8 H8 ys8 its8 k8} I8 rv8 hl8 n8=>by
         obtain ⟨m',hm,w8⟩:=hNx ys8 σ8 H8 n8;refine ⟨m',hm,i+1,σ8,H8,ys8,its8,k8,I8.unpinned,rv8,hl8,T.keep _ _ _ st5 fun b hb o e=>(I8.pin (b,o) (dv5 _ (dv5 _ (aa2 hb e)))).1,fun b hb=> ?_,w8⟩;obtain ⟨o,e,d⟩:=T.obj _ _ st5 b hb;exact (I8.pin (b,o) (dv5 _ (dv5 _ (aa2 hb e)))).2.1
     cases ok7 with
     |false=>
      rw[if_neg dv3] at q7 ⊢;exact again I7 rv hyl q7
     |true=>
      rw[if_pos rfl] at q7 ⊢;have ee:=he (B0 X.env scope.names []) HH.objs.size s2 H2 fp;rw[hXd] at ee;have ee:=ee _ s7 σ6 H7 _ I7 q7;rw[hX'A,hX'P,hX'w,hX'xe,hX'env] at ee
      refine p6 ee fun yv s8 ⟨y,H8,I8,r8,hyl8,q8⟩=> ?_
      have pin8:=I8.pin (s2.heap.objs.size,{cls:= .type "list",data:= .seq its.toArray k}) (dv5 _ (dy4 _ ds5));refine wpAny_list_append_plain (items:=its.toArray) ⟨k,pin8.1⟩ (fun h9 hp9 hs9=> ?_) (by rw[dt8,<-rv.length];exact hyl);obtain ⟨k9,e9⟩:=hp9
      have I9:g9 X' (ac1 fp s5.heap) σ6 H8 s8:=I8.pins_of fun p hp=>I8.pin p (dv5 _ (dv5 _ hp))
      have I9':g9 X' (ac1 fp s5.heap) σ6 H8 {s8 with heap:=h9,toks:=s8.toks}:=by
        refine I9.turned (t':=s8.toks) (it:=s2.heap.objs.size) (fun b o hb e=>hs9.extBut b o hb e) pin8.2.1 (by rw[hX'd];exact hDC) (.inr (by rw[hX's0];exact ds4 _)) (fun x c e z=> ?_) fun p hp z=> ?_
        · rw[hX'c] at e;exact absurd (z▸cellLt x c (cellsSub x c e)) (ea8 _)
        · rw[hX'pn] at hp;obtain ⟨hb,_⟩:=bh2 (by simpa using hp);exact absurd (z▸fplt _ hb) (ea8 _)
      have e9':h9.get? s2.heap.objs.size=some {cls:= .type "list",data:= .seq (its++[yv]).toArray k9}:=by rw[e9];simp
      refine again (ys8:=ys++[y]) (its8:=its++[yv]) (k8:=k9) ?_ (m8.append rv (.cons r8 .nil)) (by rw[ds8];exact hyl8) q8
      refine I9'.pins_of fun p hp=> ?_
      rcases dt4.mp hp with z|z
      · have e:p=(s2.heap.objs.size,{cls:= .type "list",data:= .seq (its++[yv]).toArray k9}):=by simpa using z
        subst e;exact ⟨e9',pin8.2.1,pin8.2.2.1,pin8.2.2.2.1,fun v z=>by cases z⟩
      · exact I9'.pin p (dv5 _ z)
 exact codeAny_compStart_list (loop _ rfl) (T.self X.A 0 _ _ _ (T.keep 0 _ _ st2 fun b hb o e=>old b o e) (loop _ rfl))
end
end L2
namespace L2
open PySem PySem.Spec PyProof.Rows
section
variable {X:Cx}
theorem bd4 {elt tg iter:Expr}{ifs:List Expr}{scope:Scope}{pos:Pos}{wi:TI}{g:TG}{tc:TT}{te:TE}{N:List Str}{nl:Nat}{fr:List Nat}
   (hc:X.calm=true) (ok:an7 X N nl fr scope) (hi:PI X tg iter wi) (hg:∀cl C s0 H0 ex,PG (R7 X N scope cl C s0 H0 ex) tg g) (ht:∀cl C s0 H0 ex,bo2 (R7 X N scope cl C s0 H0 ex) ifs tc)
   (he:∀cl C s0 H0 ex,PE (R7 X N scope cl C s0 H0 ex) elt te) (hs:∀x,foldedSetIterable iter X.env x=pure x:=by intro _;rfl):
   PE X (.ListComp elt [⟨tg,iter,ifs,0⟩] scope pos) (cd3 nl fr wi g tc te):=by
 intro pins s σ H Q I h
 have hclos:closureFor scope X.env=pure (B0 X.env scope.names []):=am7 fun p hp hf=>I.ok.has p.1 (ok.free p hp hf)
 rw[eval_ListComp];refine wpAny_comprehension_free (use:=none) rfl hs hclos ok.kind ok.names (bi1 (RR:=fun acc C=>compPost (model X.prog X.w) X.A X.xe none (EP X pins σ Q) acc C) hc hi hg ht he ok I h ?_);intro D C s' H' I' q f ⟨m,hn⟩;exact ⟨m,hn,fun h' hs'=>⟨.ref D,H',I'.turned (t':=s'.toks) (fun b o hb e=>hs'.extBut b o hb e) f.1 f.2.1 f.2.2.2.1 f.2.2.2.2.1 f.2.2.2.2.2,rfl,q⟩⟩
theorem cz5 {i:Nat}{y:Str}{py spos:Pos}{elt tg iter:Expr}{ifs:List Expr}{scope:Scope}{pos:Pos}{wi:TI}{g:TG}{tc:TT}{te:TE}{N:List Str}{nl:Nat}{fr:List Nat}
   (hN:X.N.Nodup) (hi':X.N[i]? =some y) (hx:Loc X.env.scope y)
   (hc:X.calm=true) (ok:an7 X N nl fr scope) (hi:PI X tg iter wi) (hg:∀cl C s0 H0 ex,PG (R7 X N scope cl C s0 H0 ex) tg g) (ht:∀cl C s0 H0 ex,bo2 (R7 X N scope cl C s0 H0 ex) ifs tc)
   (he:∀cl C s0 H0 ex,PE (R7 X N scope cl C s0 H0 ex) elt te) (hsw:swapsWith (.ListComp elt [⟨tg,iter,ifs,0⟩] scope pos) (some (.Name y py)) spos.line X.env=pure true:=by rfl)
   (hs:∀x,foldedSetIterable iter X.env x=pure x:=by intro _;rfl)
   (hf:X.fn y=true\/X.env.scope.names.lookup y=some .local:=by first|exact .inl rfl|exact .inr rfl|assumption):
   PS X (.Assign [.Name y py] (.ListComp elt [⟨tg,iter,ifs,0⟩] scope pos) spos) (cp2 (cd3 nl fr wi g tc te) (cc6 i)):=by
 intro pins s σ H Dn I h
 have hclos:closureFor scope X.env=pure (B0 X.env scope.names []):=am7 fun p hp hf=>I.ok.has p.1 (ok.free p hp hf)
 rw[exec_Assign_Name_used _ _ _ _ hsw];refine wpAny_bind (wpAny_standAt (wpAny_bind ?_));show wpAny _ X.A (do let _ <-comprehension (.ListComp elt [⟨tg,iter,ifs,0⟩] scope pos) scope X.env _ (newList []) false (eval iter X.env) (some (assign (.Name y py) X.env))) _ _ s
 refine wpAny_bind (wpAny_mono (wpAny_comprehension_free (use:=some (assign (.Name y py) X.env)) (Q:=fun _ s'=>SP X pins Dn .next s') rfl hs hclos ok.kind ok.names
   (bi1 (RR:=fun acc C=>compPost (model X.prog X.w) X.A X.xe (some (assign (.Name y py) X.env)) (fun _ s'=>SP X pins Dn .next s') acc C) hc hi hg ht he ok I h ?_)) (fun _ s' hq=>wpAny_pure (wpAny_pure hq)) fun _ _ e=>e)
 intro D C s' H' I' q f ⟨m,hn⟩;show wpAny _ X.A (assign (.Name y py) X.env (.ref D)) _ _ _;refine wpAny_assign_Name (bh0 I' hN hi' hx (v:= .ref D) rfl (fun s2 I2 ⟨a,sb,ha⟩=> ?_) hf)
 have hCa:C≠a:=by
   rcases ha with z|z
   · rw[z];exact f.2.1
   · exact fun e=>f.2.2.2.2.1 _ _ z e.symm
 exact ⟨m,hn.sameBut sb hCa,fun h' hs'=>⟨_,H',I2.turned (t':=s2.toks) (fun b o hb e=>hs'.extBut b o hb e) f.1 f.2.1 f.2.2.2.1 f.2.2.2.2.1 f.2.2.2.2.2,q⟩⟩
theorem bi2 {K:PySem.W.Frag}{a:Addr}{xs:List V}{g:TG}{tc:TT}{te:TE}{σ0:St}{H:Hp}{Q:VK}(Pv:Nat->List V->St->Hp->Prop)(h0:Pv 0 [] σ0 H)(hl:∀i ys σ H,i<=xs.length->Pv i ys σ H->i5 K H a xs)
   (hs:∀i x ys σ H,xs[i]? =some x->Pv i ys σ H->g x σ H fun σ2 H2=>tc σ2 H2 fun b H4=>if b=true then te σ2 H4 fun y H5=>ys.length < sizeLine/\Pv (i+1) (ys++[y]) σ2 H5 else Pv (i+1) ys σ2 H4)
   (hd:∀ys σ H,Pv xs.length ys σ H->∀D,H D=none->Q (.ref D) (c9 H D (.lst ys))):
   cd2 (Itl K a) g tc te Q σ0 H:=by
 refine ⟨fun i m ys σ H=>m=xs.length - i/\i<=xs.length/\Pv i ys σ H,⟨xs.length,by simp,du3 _,h0⟩,?_⟩;rintro i m ys σ H ⟨rfl,hi,p⟩;have q:=hl i ys σ H hi p
 by_cases hlt:i < xs.length
 · refine .inr ⟨⟨xs,xs[i],q,by simp [hlt]⟩,Pv (i+1),fun ys' σ' H' p'=>⟨xs.length - (i+1),by omega,rfl,hlt,p'⟩,fun x H' y=> ?_⟩;obtain ⟨e,y⟩:=y;subst e;exact hs i x ys σ _ (y xs q) p
 · have e:i=xs.length:=by omega
   subst e;exact .inl ⟨⟨xs,q,ds4 _⟩,hd ys σ H p⟩
theorem az2 {lo:Int}{n:Nat}{g:TG}{tc:TT}{te:TE}{σ0:St}{H:Hp}{Q:VK}(Pv:Nat->List V->St->Hp->Prop)(h0:Pv 0 [] σ0 H)
   (hs:∀i ys σ H,i < n->Pv i ys σ H->g (.int (lo+i)) σ H fun σ2 H2=>tc σ2 H2 fun b H4=>if b=true then te σ2 H4 fun y H5=>ys.length < sizeLine/\Pv (i+1) (ys++[y]) σ2 H5 else Pv (i+1) ys σ2 H4)
   (hd:∀ys σ H,Pv n ys σ H->∀D,H D=none->Q (.ref D) (c9 H D (.lst ys))):
   cd2 (Itr lo n) g tc te Q σ0 H:=by
 refine ⟨fun i m ys σ H=>m=n - i/\i<=n/\Pv i ys σ H,⟨n,by simp,du3 _,h0⟩,?_⟩;rintro i m ys σ H ⟨rfl,hi,p⟩
 by_cases hlt:i < n
 · refine .inr ⟨hlt,Pv (i+1),fun ys' σ' H' p'=>⟨n - (i+1),by omega,rfl,hlt,p'⟩,fun x H' y=> ?_⟩;obtain ⟨e,y⟩:=y;subst e y;exact hs i ys σ _ hlt p
 · have e:i=n:=by omega
   subst e;exact .inl ⟨ds4 _,hd ys σ H p⟩
inductive EqD (K:PySem.W.Frag)(H:Hp):Nat->V->V->Bool->Prop where
 |flat {n:Nat} {x y:V}:bl7 x=true->bl7 y=true->EqD K H n x y (eqV x y)
 |same {n:Nat} (a:Addr):EqD K H n (.ref a) (.ref a) true
 |lists {n:Nat} {a b:Addr} {xs ys:List V} (e:Nat->Bool):a≠b->i5 K H a xs->i5 K H b ys->xs.length=ys.length->(∀(j:Nat) x y,xs[j]? =some x->ys[j]? =some y->EqD K H n x y (e j))->EqD K H (n+1) (.ref a) (.ref b) ((dv4 xs.length).all e)
 |lens {n:Nat} {a b:Addr} {xs ys:List V}:a≠b->i5 K H a xs->i5 K H b ys->xs.length≠ys.length->EqD K H (n+1) (.ref a) (.ref b) false
theorem dg2 {pins:List (Addr×Obj)}{σ:St}{H:Hp}{s:Shared}(I:g9 X pins σ H s){n:Nat}{x y:V}{b:Bool}(d:EqD X.K H n x y b):
   ∀{A:Around} {u v:Value},A.units+n < cLine->p5 x u->p5 y v->SeqAt.EqAt A s u v b:=by
 induction d with
 |flat fx fy=>intro A u v _ rx ry;exact df5 rx ry fx fy
 |same a=>intro A u v _ rx ry;cases rx;cases ry;exact SeqAt.EqAt.same _
 |@lists n a c xs ys e ne ha hb hl _ ih=>
  intro A u v hu rx ry;cases rx;cases ry;obtain ⟨its,r1,p1,_⟩:=I.list ha;obtain ⟨its2,r2,p2,_⟩:=I.list hb;have l1:=r1.length;have l2:=r2.length;refine SeqAt.EqAt.of_refs ne ?_
  have q:=SeqAt.RcAt.lists (A:=A) (e:=e) p1.isList p2.isList (by rw[dt8,dt8];omega) (by omega) (fun j h1 h2=>by
    have h1':j < its.length:=by simpa using h1
    have h2':j < its2.length:=by simpa using h2
    have e1:xs[j]? =some (xs[j]'(by omega)):=ds2 _;have e2:ys[j]? =some (ys[j]'(by omega)):=ds2 _;obtain ⟨u1,z1,q1⟩:=r1.get e1;obtain ⟨u2,z2,q2⟩:=r2.get e2
    have w1:its.toArray[j]=u1:=by
      rw[ds2 h1'] at z1
      simpa using z1
    have w2:its2.toArray[j]=u2:=by
      rw[ds2 h2'] at z2
      simpa using z2
    rw[w1,w2]
    exact ih j _ _ e1 e2 (by show A.in1.units+n < cLine;have:A.in1.units=A.units+1:=by first|rfl|simp [Around.in1]
                             omega) q1 q2)
  rw[dt8,<-l1] at q;exact q
 |lens ne ha hb hl=>
  intro A u v hu rx ry;cases rx;cases ry;obtain ⟨its,r1,p1,_⟩:=I.list ha;obtain ⟨its2,r2,p2,_⟩:=I.list hb;have l1:=r1.length;have l2:=r2.length;exact SeqAt.EqAt.of_refs ne (SeqAt.RcAt.lists_lengths p1.isList p2.isList (by rw[dt8,dt8];simp;omega) (by omega))
def LEq (K:PySem.W.Frag)(H:Hp)(n:Nat)(xs ys:List V)(r:Bool):Prop:=
 (xs.length≠ys.length/\r=false)\/(∃e:Nat->Bool,xs.length=ys.length/\(∀(j:Nat) x y,xs[j]? =some x->ys[j]? =some y->EqD K H n x y (e j))/\r=(dv4 xs.length).all e)
theorem dg4 {pins:List (Addr×Obj)}{σ:St}{H:Hp}{s:Shared}(I:g9 X pins σ H s){A:Around}{n:Nat}{a b:Addr}{xs ys:List V}{r:Bool}(hu:A.units+n+1 < cLine)(ha:i5 X.K H a xs)(hb:i5 X.K H b ys)(d:LEq X.K H n xs ys r):
   SeqAt.RcAt A s (.ref a) (.ref b) r:=by
 obtain ⟨its,r1,p1,_⟩:=I.list ha;obtain ⟨its2,r2,p2,_⟩:=I.list hb;have l1:=r1.length;have l2:=r2.length
 rcases d with ⟨hl,rfl⟩|⟨e,hl,he,rfl⟩
 · exact SeqAt.RcAt.lists_lengths p1.isList p2.isList (by rw[dt8,dt8];simp;omega) (by omega)
 · have q:=SeqAt.RcAt.lists (A:=A) (e:=e) p1.isList p2.isList (by rw[dt8,dt8];omega) (by omega) (fun j h1 h2=>by
     have h1':j < its.length:=by simpa using h1
     have h2':j < its2.length:=by simpa using h2
     have e1:xs[j]? =some (xs[j]'(by omega)):=ds2 _;have e2:ys[j]? =some (ys[j]'(by omega)):=ds2 _;obtain ⟨u1,z1,q1⟩:=r1.get e1;obtain ⟨u2,z2,q2⟩:=r2.get e2
     have w1:its.toArray[j]=u1:=by
       rw[ds2 h1'] at z1
       simpa using z1
     have w2:its2.toArray[j]=u2:=by
       rw[ds2 h2'] at z2
       simpa using z2
     rw[w1,w2]
     exact dg2 I (he j _ _ e1 e2) (by show A.in1.units+n < cLine;have:A.in1.units=A.units+1:=by first|rfl|simp [Around.in1]
                                      omega) q1 q2)
   rw[dt8,<-l1] at q;exact q
end
end L2
namespace L2
open PySem PySem.Spec PyProof.Rows
section
variable {X:Cx}
def dq4 (K:PySem.W.Frag)(n:Nat)(neg:Bool):R2:=fun x y H Q=>∃a b xs ys r,x= .ref a/\y= .ref b/\i5 K H a xs/\i5 K H b ys/\LEq K H n xs ys r/\Q (.bl (if neg then !r else r)) H
theorem dg5 (n:Nat)(hu:X.A.units+n+1 < cLine):N8 X (compareOp .Eq) (dq4 X.K n false):=by
 intro pins s σ H x y v u Q I rx ry h;obtain ⟨a,b,xs,ys,r,rfl,rfl,ha,hb,d,q⟩:=h;cases rx;cases ry;exact dg4 I hu ha hb d _ _ _ _ ⟨.bl r,H,I,rfl,q⟩
theorem bl1 {n:Nat}{e:Nat->Bool}:(dv4 n).all e=true↔∀j,j < n->e j=true:=by
 rw[ec2];exact ⟨fun h j hj=>h j (dv0.mpr hj),fun h j hj=>h j (dv0.mp hj)⟩
theorem cq5 (K:PySem.W.Frag)(H:Hp)(n:Nat)(ns ms:List Int):LEq K H n (ns.map V.int) (ms.map V.int) (decide (ns=ms)):=by
 by_cases hl:ns.length=ms.length
 · refine .inr ⟨fun j=>decide (ns[j]? =ms[j]?),by simpa using hl,fun j x y e1 e2=> ?_,?_⟩
   · rw[ds9] at e1 e2
     cases h1:ns[j]? with
     |none=>rw[h1] at e1;cases e1
     |some a=>
      cases h2:ms[j]? with
      |none=>rw[h2] at e2;cases e2
      |some b=>
       rw[h1] at e1;rw[h2] at e2;cases e1;cases e2;have q:EqD K H n (V.int a) (V.int b) (eqV (V.int a) (V.int b)):= .flat rfl rfl
       have e:eqV (V.int a) (V.int b)=decide (some a=some b):=by
         show (a==b)=_
         by_cases z:a=b
         · subst z;simp
         · rw[decide_eq_false (fun w=>z (Option.some.inj w))];simpa using z
       rw[e] at q;show EqD K H n _ _ (decide (ns[j]? =ms[j]?));rw[h1,h2];exact q
   · rw[eg7,decide_eq_true_iff,bl1];constructor
     · intro h j _;subst h;simp
     · intro h
       refine dx9 fun j=> ?_
       by_cases hj:j < ns.length
       · exact of_decide_eq_true (h j (by simpa using hj))
       · rw[dt5 (by omega),dt5 (by omega)]
 · refine .inl ⟨by simpa using hl,?_⟩
   exact decide_eq_false fun h=>hl (by rw[h])
theorem bw2:K9 X (.type "range") (fun xs H Q=>∃j,xs=[.int j]/\∀p,H p=none->Q (.ref p) (c9 H p (.rng 0 j))):=by
 intro pins s σ H xs us Q I r h;obtain ⟨j,rfl,q⟩:=h;obtain ⟨u,rfl,⟨t,rfl⟩⟩:=Q2 r;refine call_range_1 ⟨.ref s.heap.objs.size,_,I.laid (fun b o e=>Heap.get?_push_of_some _ e) (ds4 _) ?_,rfl,q _ (I.hok.fresh (ds4 _))⟩;exact ⟨_,_,_,Heap.get?_push_size _ rfl⟩
theorem bw3:K9 X (.type "range") (fun xs H Q=>∃i j,xs=[.int i,.int j]/\∀p,H p=none->Q (.ref p) (c9 H p (.rng i j))):=by
 intro pins s σ H xs us Q I r h;obtain ⟨i,j,rfl,q⟩:=h;obtain ⟨u,w',rfl,⟨t,rfl⟩,⟨t',rfl⟩⟩:=bl6 r;refine call_range_2 ⟨.ref s.heap.objs.size,_,I.laid (fun b o e=>Heap.get?_push_of_some _ e) (ds4 _) ?_,rfl,q _ (I.hok.fresh (ds4 _))⟩;exact ⟨_,_,_,Heap.get?_push_size _ rfl⟩
def n6 (lo:Int)(n:Nat):List Int:=(dv4 n).map fun (i:Nat)=>lo+(i:Int)
theorem cd4 {lo:Int}{n:Nat}{acc:Array Value}(h:ItemsOf (fun i v=>∃t,v=Value.int (lo+(i:Int)*1) t) acc n):m8 ((n6 lo n).map V.int) acc.toList:=by
 obtain ⟨hs,hv⟩:=h
 have key:∀(l:List Value) (k:Nat),(∀(j:Nat) v,l[j]? =some v->∃t,v=Value.int (lo+((k+j:Nat):Int)) t)->m8 (((dv4 l.length).map fun (i:Nat)=>lo+((k+i:Nat):Int)).map V.int) l:=by
   intro l
   induction l with
   |nil=>intro k _;exact .nil
   |cons v r ih=>
    intro k hk
    have e:(((dv4 r.length).map Nat.succ).map fun (i:Nat)=>lo+((k+i:Nat):Int))=(dv4 r.length).map fun (i:Nat)=>lo+((k+1+i:Nat):Int):=by
      rw[dw5]
      refine dx6 fun i _=> ?_
      show lo+((k+(i+1):Nat):Int)=_
      congr 2;omega
    rw[dv9,ek1,du9,du9,e];refine .cons ?_ ?_
    · obtain ⟨t,e⟩:=hk 0 v rfl;exact ⟨t,e⟩
    · have:=ih (k+1) fun j w e=>by
        obtain ⟨t,z⟩:=hk (j+1) w (by simpa using e);exact ⟨t,by rw[z];congr 2;omega⟩
      exact this
 have:=key acc.toList 0 fun j v e=>by
   obtain ⟨t,z⟩:=hv j v (by simpa using e);exact ⟨t,by rw[z,Int.mul_one];simp⟩
 have hl:acc.toList.length=n:=by simpa using hs
 rw[hl] at this
 have e:((dv4 n).map fun (i:Nat)=>lo+((0+i:Nat):Int))=n6 lo n:=by
   unfold n6
   refine dx6 fun i _=> ?_
   simp
 rw[e] at this;exact this
theorem am8 (hc:X.calm=true):K9 X (.type "list") (fun xs H Q=>∃p lo hi,xs=[.ref p]/\H p=some (.rng lo hi)/\(-(2^62)<=lo/\lo < 2^62/\ -(2^62)<=hi/\hi < 2^62)/\(hi - lo).toNat<=2^20/\
   ∀l,H l=none->Q (.ref l) (c9 H l (.lst ((n6 lo (hi - lo).toNat).map V.int)))):=by
 intro pins s σ H xs us Q I r h;obtain ⟨p,lo,hi,rfl,hp,⟨b1,b2,b3,b4⟩,hz,q⟩:=h;obtain ⟨u,rfl,rx⟩:=Q2 r;cases rx;obtain ⟨t,u,v,ho⟩:=I.hok p _ hp
 refine call_list_range (n:=(hi - lo).toNat) (I.ok.hd hc) (r:=p) ho (small_one b1 b2 b3 b4) (by rw[rangeSize_one];split<;>omega) (dt6 hz (by decide)) fun h' tk acc' c' hk e it=> ?_
 have rv:=cd4 it;refine ⟨.ref s.heap.objs.size,_,I.laid hk (ds4 _) (show q9 X.prog X.w _ h' _ (.lst ((n6 lo (hi - lo).toNat).map V.int)) from ⟨?_,acc'.toList,c',rv,by rw[e]⟩),rfl,q _ (I.hok.fresh (ds4 _))⟩;unfold n6;rw[ds1,ds1,dw1];exact dt6 hz (by rw[sizeLine_eq];decide)
theorem cj4 (hc:X.calm=true):K9 X (.builtin "sum") (fun xs H Q=>∃(p:Addr) (ns:List Int),xs=[.ref p]/\i5 X.K H p (ns.map V.int)/\Q (.int ns.sum) H):=by
 intro pins s σ H xs us Q I r h;obtain ⟨p,ns,rfl,hp,q⟩:=h;obtain ⟨u,rfl,rx⟩:=Q2 r;cases rx;obtain ⟨its,rv,pl,_⟩:=I.list hp;have ia:=aj8 rv;obtain ⟨xs,hxs⟩:=ia.allInts.items;have hn:=ia.numsOf
 have hxl:its=(intItems xs).toList:=by rw[<-hxs]
 rw[hxl,nums_intItems] at hn;have hl:=pl.isList;rw[hxs] at hl
 refine sum_intListG (I.ok.hd hc) hl fun h' tk t' hk=>⟨.int ns.sum,H,I.kept hk,?_,q⟩
 rw[preSum_eq,eb4 (by simp),hn];exact ⟨_,rfl⟩
end
end L2
namespace L2
open PySem PySem.Spec PyProof.Rows
section
variable {X:Cx}
theorem cq6:K9 X (.builtin "isinstance") (fun xs H Q=>∃x n t b,xs=[x,.ty n]/\S4 X.K H x t/\PySem.W.kitOne X.K t (.type n)=some b/\Q (.bl b) H):=by
 intro pins s σ H xs us Q I r h;obtain ⟨x,n,t,b,rfl,ty,e,q⟩:=h;obtain ⟨u,w',rfl,rx,ry⟩:=bl6 r;cases (show w'=Value.type n from ry)
 exact ci1 I rx ty e fun tk=>⟨.bl b,H,I.tok tk,rfl,q⟩
theorem O3 (K:PySem.W.Frag)(n:String):PySem.W.kitOne K (.type n) (.type n)=some true:=by
 unfold PySem.W.kitOne;rw[if_pos (beq_self_eq_true _)]
theorem U2 (K:PySem.W.Frag):PySem.W.kitOne K (.type "int") (.type "bool")=some false:=by
 unfold PySem.W.kitOne PySem.W.kitCls;rw[if_neg (by decide+kernel)];show (if PySem.W.kitMeta "bool"=true then (fastBuiltinMro "int").map (·.contains (Value.type "bool")) else none)=some false;rw[if_pos (by decide+kernel)]
 decide+kernel
theorem cq7:bootBuiltins "int"=some (.type "int"):=by decide+kernel
theorem cj5:bootBuiltins "bool"=some (.type "bool"):=by decide+kernel
theorem aa4:bootBuiltins "list"=some (.type "list"):=by decide+kernel
theorem at4:bootBuiltins "range"=some (.type "range"):=by decide+kernel
theorem cq8:bootBuiltins "isinstance"=some (.builtin "isinstance"):=by decide+kernel
theorem cj6:bootBuiltins "sum"=some (.builtin "sum"):=by decide+kernel
theorem cj7:bootBuiltins "min"=some (.builtin "min"):=by decide+kernel
theorem cj8:bootBuiltins "max"=some (.builtin "max"):=by decide+kernel
end
def i8 (a:Addr)(H H':Hp):Prop:=∀b o,H b=some o->b≠a->H' b=some o
theorem i8.refl (a:Addr)(H:Hp):i8 a H H:=fun _ _ h _=>h
theorem i8.trans {a:Addr}{H H1 H2:Hp}(x:i8 a H H1)(y:i8 a H1 H2):i8 a H H2:=fun b o h n=>y b o (x b o h n) n
theorem e8.but {H H':Hp}(a:Addr)(s:e8 H H'):i8 a H H':=fun b o h _=>s b o h
theorem e8.upd_new {H:Hp}{p:Addr}{o:HO}(h:H p=none):e8 H (c9 H p o):=fun b u e=>by rw[g8 (g6 e h)];exact e
theorem i8.upd {H:Hp}{a:Addr}{o:HO}:i8 a H (c9 H a o):=fun b u e n=>by rw[g8 n];exact e
theorem e8.upd_r {H H':Hp}{p:Addr}{o:HO}(s:e8 H H')(h:H p=none):e8 H (L2.c9 H' p o):=fun b u e=>by rw[g8 (g6 e h)];exact s b u e
theorem i8.upd_a {a:Addr}{H H':Hp}{o:HO}(k:i8 a H H'):i8 a H (L2.c9 H' a o):=fun b u e n=>by rw[g8 n];exact k b u e n
def x4 (H:Hp)(a:Addr)(c:Nat):Prop:=∃x y z:Int,H a=some (.lst [.int x,.int y,.int z])/\0<=z/\z<=c
theorem x4.mono {H:Hp}{a:Addr}{c d:Nat}(h:x4 H a c)(e:c<=d):x4 H a d:=by
 obtain ⟨x,y,z,h1,h2,h3⟩:=h;exact ⟨x,y,z,h1,h2,by omega⟩
end L2
namespace L2
open PySem PySem.Spec PyProof.Rows
def j7 (P:Program)(w:World)(K:PySem.W.Frag)(mg:Str->Option Value)(base:Heap)(x:Str)(k:Nat)(ps:List Str)(sp:Sp):Prop:=
 ∃(f:Addr) (fd:FuncData),mg x=some (.ref f)/\PySem.W.keepIn K (.ref f)=true/\aj7 K fd ps []/\o7 P w K mg base x5 k f fd ps sp
theorem j7.imp {P:Program}{w:World}{K:PySem.W.Frag}{mg:Str->Option Value}{base:Heap}{x:Str}{k:Nat}{ps:List Str}{sp sp':Sp}(c:j7 P w K mg base x k ps sp)(h:∀vs H Q E,sp' vs H Q E->sp vs H Q E)(hl:∀vs H Q E,sp' vs H Q E->vs.length=ps.length):j7 P w K mg base x k ps sp':=by
 obtain ⟨f,fd,a,b,d,g⟩:=c;exact ⟨f,fd,a,b,d,g.imp (by first|exact h|exact fun vs H Q E z=>h vs H Q E z)⟩
section
variable {X:Cx} {x:Str} {p pos:Pos} {e:Expr} {es:List Expr} {t:TA} {k:Nat} {ps:List Str} {sp:Sp}
theorem i4 (c:j7 X.prog X.w X.K X.mg X.base x k ps sp)(hr:l6 k X.A)(ha:PA X (e::es) t)(hg:Gl X x:=by rfl)(hdb:(x==("__debug__":Str))=false:=by decide)
   (he:starEach (e::es) X.env=(false,eval e X.env)::starEach es X.env:=by rfl) (hpl:(backTo pos (starEach es X.env)).any (·.1)=false:=by rfl):
   PE X (.Call (.Name x p) (e::es) [] pos) (cw5 sp [] E0 t):=by
 obtain ⟨f,fd,h1,h2,h3,h4⟩:=c;exact cy5 h4 hr hg h1 h2 h3 .nil dl2 ha hdb he hpl
theorem ai0 {a b:Expr}{ta:TA}(hm:X.mg "isinstance"=none)(ha:PA X [a,b] ta)(hg:Gl X "isinstance":=by rfl)
   (he:starEach [a,b] X.env=(false,eval a X.env)::starEach [b] X.env:=by rfl) (hpl:(backTo pos (starEach [b] X.env)).any (·.1)=false:=by rfl):
   PE X (.Call (.Name "isinstance" p) [a,b] [] pos) (X8 (fun xs H Q=>∃x n t b,xs=[x,.ty n]/\S4 X.K H x t/\PySem.W.kitOne X.K t (.type n)=some b/\Q (.bl b) H) ta):=
 O2 cq6 hg hm cq8 ha (by decide) (by decide) he hpl
theorem cq9 (hm:X.mg "int"=none)(hg:Gl X "int":=by rfl):PE X (.Name "int" p) (tC (.ty "int")):=bd0 hg hm cq7 rfl
theorem cj9 (hm:X.mg "bool"=none)(hg:Gl X "bool":=by rfl):PE X (.Name "bool" p) (tC (.ty "bool")):=bd0 hg hm cj5 rfl
theorem ae9 (hm:X.mg "list"=none)(hg:Gl X "list":=by rfl):PE X (.Name "list" p) (tC (.ty "list")):=bd0 hg hm aa4 rfl
theorem y7 (hm:X.mg "len"=none)(ha:PA X [e] t)(hg:Gl X "len":=by rfl)
   (he:starEach [e] X.env=(false,eval e X.env)::starEach [] X.env:=by rfl):PE X (.Call (.Name "len" p) [e] [] pos) (X8 (fun xs H Q=>∃p ys,xs=[.ref p]/\(i5 X.K H p ys\/T2 X.K H p ys)/\Q (.int ys.length) H) t):=
 O2 bn9 hg hm PySem.boot_len ha (by decide) (by decide) he rfl
end
end L2
namespace Mth
structure o6 (p:List Int):Prop where
 nd:p.Nodup
 lo:∀x∈p,0<=x
 hi:∀x∈p,x < p.length
theorem A4 {n:Nat}{x:Int}:x∈L2.n6 0 n↔0<=x/\x < n:=by
 unfold L2.n6;rw[dt0];constructor
 · rintro ⟨i,hi,rfl⟩;have:=dv0.mp hi;omega
 · rintro ⟨h1,h2⟩;exact ⟨x.toNat,dv0.mpr (by omega),by omega⟩
theorem t8 (lo:Int)(n:Nat):(L2.n6 lo n).length=n:=by
 unfold L2.n6;rw[ds1,dw1]
theorem K6 (n:Nat):(L2.n6 0 n).Nodup:=by
 unfold L2.n6;rw[du4,eb6];exact List.Pairwise.imp (fun {a b} (h:a < b)=>by omega) List.pairwise_lt_range
theorem at5 {p:List Int}{n:Nat}(h:p.Perm (L2.n6 0 n)):o6 p/\p.length=n:=by
 have hl:p.length=n:=by rw[h.length_eq,t8]
 refine ⟨⟨h.nodup_iff.mpr (K6 n),fun x hx=>(A4.mp (h.mem_iff.mp hx)).1,fun x hx=> ?_⟩,hl⟩;have:=(A4.mp (h.mem_iff.mp hx)).2;omega
theorem bl2:∀(n:Nat) (p:List Nat),p.Nodup->(∀x∈p,x < n)->p.length=n->p.Perm (dv4 n):=by
 intro n
 induction n with
 |zero=>intro p _ _ hl;rw[el1 hl];exact List.Perm.refl _
 |succ n ih=>
  intro p nd hb hl
  by_cases hn:n∈p
  · obtain ⟨s,t,rfl⟩:=em3 hn;have pm:(s++n::t).Perm (n::(s++t)):=List.perm_middle;have nd':=pm.nodup_iff.mp nd;obtain ⟨h1,h2⟩:=dw4.mp nd'
    have:=ih (s++t) h2 (fun x hx=>by
      have hx':x < n+1:=hb x (pm.mem_iff.mpr (ds6 _ hx))
      have:x≠n:=fun e=>h1 (e▸hx)
      omega) (by rw[ds8,dv9] at hl;rw[ds8];omega)
    refine pm.trans ?_;rw[ef1];exact (List.Perm.cons n this).trans (ea1 (l₁:=[n]))
  · exfalso
    have hlt:∀x∈p,x < n:=fun x hx=>by
      have h1:=hb x hx
      have:x≠n:=fun e=>hn (e▸hx)
      omega
    match p,nd,hl,hlt with
    |[],_,hl,_=>simp at hl
    |y::q,nd,hl,hlt=>
     obtain ⟨h1,h2⟩:=dw4.mp nd;have hq:=ih q h2 (fun x hx=>hlt x (ds6 _ hx)) (by simpa using hl);have hy:=hlt y ds5;exact h1 (hq.mem_iff.mpr (dv0.mpr hy))
theorem o6.perm {p:List Int}(h:o6 p):p.Perm (L2.n6 0 p.length):=by
 have e:(p.map el2).map (fun (i:Nat)=>(0:Int)+(i:Int))=p:=by
   rw[dw5]
   conv=>rhs;rw[<-ek3 p]
   refine dx6 fun x hx=> ?_
   have:=h.lo x hx;show (0:Int)+((x.toNat:Nat):Int)=x;omega
 have nd:(p.map el2).Nodup:=by
   rw[du4,eb6];have:=du4.mp h.nd;refine List.Pairwise.imp_of_mem (fun {a b} ha hb hne z=>hne ?_) this;have h1:=h.lo a ha;have h2:=h.lo b hb;omega
 have:=bl2 p.length (p.map el2) nd (fun x hx=>by
   obtain ⟨y,hy,rfl⟩:=dt0.mp hx;have h1:=h.lo y hy;have h2:=h.hi y hy
   omega) (by rw[ds1])
 have q:=this.map (fun (i:Nat)=>(0:Int)+(i:Int));rw[e] at q;exact q
def A1 (fs:List Int)(u:Int):Option Int:=fs[u.toNat]?
theorem ac7 (fs:List Int):(L2.n6 0 fs.length).map (A1 fs)=fs.map some:=by
 unfold L2.n6;rw[dw5]
 refine dx9 fun j=> ?_
 rw[ds9,ds9]
 by_cases hj:j < fs.length
 · rw[dw9 hj,ds2 hj];show some (fs[((0:Int)+(j:Int)).toNat]?)=_
   have:((0:Int)+(j:Int)).toNat=j:=by omega
   rw[this,ds2 hj];rfl
 · rw[dt5 (by rw[dw1];omega),dt5 (by omega)];rfl
theorem ck0 {a b:List Int}(h:(a.map some).Perm (b.map some)):a.Perm b:=by
 have:=h.map (fun o:Option Int=>o.getD 0);rw[dw5,dw5] at this
 have e:∀l:List Int,l.map ((fun o:Option Int=>o.getD 0)∘some)=l:=fun l=>by
   conv=>rhs;rw[<-ek3 l]
   rfl
 rw[e,e] at this;exact this
theorem cd5 {fs ts qs:List Int}(ht:o6 ts)(hl:fs.length=ts.length)(h:ts.map (A1 fs)=qs.map some):fs.Perm qs:=by
 refine ck0 ?_;have h1:=ht.perm.map (A1 fs);rw[<-hl,ac7,h] at h1;exact h1.symm
end Mth
namespace L2
open PySem PySem.Spec PyProof.Rows
theorem an7.of {X:Cx}{N:List Str}{nl:Nat}{fr:List Nat}{scope:Scope}(h1:(scope.names.all fun y=>y.2 != .cell)=true:=by rfl)(h2:scope.kind= .function:=by rfl)
   (h3:(scope.names.all fun y=>y.2 != .local||scope.names.lookup y.1==some .local)=true:=by rfl)
   (h4:(scope.names.all fun p=>p.2 != .free||(X.env.kindOf p.1==some .cell||X.env.kindOf p.1==some .free))=true:=by rfl) (h5:N.length=nl+fr.length:=by rfl)
   (h6:((dv4 fr.length).all fun k=>match fr[k]? with
     |some j=>(match N[nl+k]?,X.N[j]? with
      |some y,some z=>y==z&&(X.env.scope.names.lookup y==some .local||X.env.scope.names.lookup y==some .cell||X.env.scope.names.lookup y==some .free)&&scope.names.lookup y==some .free
      |_,_=>false)
     |none=>false)=true:=by rfl):an7 X N nl fr scope where
 cell:=fun y hy e=>by
   have:=ec2.mp h1 y hy;rw[e] at this;exact absurd this (by decide)
 kind:=h2
 names:=fun y hy e=>by
   have:=ec2.mp h3 y hy;rw[e] at this
   have q:(scope.names.lookup y.1==some NameKind.local)=true:=by simpa using this
   exact eq_of_beq q
 free:=fun p hp e=>by
   have:=ec2.mp h4 p hp;rw[e] at this
   have q:(X.env.kindOf p.1==some NameKind.cell||X.env.kindOf p.1==some NameKind.free)=true:=by simpa using this
   rcases el3 _ _|>.mp q with z|z
   · exact .inl (eq_of_beq z)
   · exact .inr (eq_of_beq z)
 len:=h5
 fr:=fun k j e=>by
   have hk:k < fr.length:=(ds3.mp e).1;have:=ec2.mp h6 k (dv0.mpr hk);rw[e] at this
   dsimp only at this
   cases e1:N[nl+k]? with
   |none=>rw[e1] at this;cases this
   |some y=>
    cases e2:X.N[j]? with
    |none=>rw[e1,e2] at this;cases this
    |some z=>
     rw[e1,e2] at this
     dsimp only at this
     rw[ed8,ed8] at this;obtain ⟨⟨q1,q2⟩,q3⟩:=this;have hyz:y=z:=eq_of_beq q1;subst hyz;refine ⟨y,rfl,rfl,?_,eq_of_beq q3⟩;rw[el3,el3] at q2
     rcases q2 with (q|q)|q
     · exact .inl (eq_of_beq q)
     · exact .inr (.inl (eq_of_beq q))
     · exact .inr (.inr (eq_of_beq q))
def Q3 (l:List Int):List (o3×V):=l.map fun n=>((Sum.inl n:o3),V.bl true)
theorem bo4 {l:List Int}{n:Int}(h:n∈l):A7 (Q3 l) (Sum.inl n:o3)=some (.bl true):=by
 induction l with
 |nil=>simp at h
 |cons a r ih=>
  show A7 (((Sum.inl a:o3),V.bl true)::Q3 r) _=_
  by_cases e:a=n
  · rw[W1 (by rw[e])]
  · rw[S5 (fun z=>e (Sum.inl.inj z))];exact ih ((dt7.mp h).resolve_left fun z=>e z.symm)
theorem av1 {l:List Int}{n:Int}(h:n∉l):A7 (Q3 l) (Sum.inl n:o3)=none:=by
 induction l with
 |nil=>rfl
 |cons a r ih=>
  show A7 (((Sum.inl a:o3),V.bl true)::Q3 r) _=_;rw[S5 (fun z=>h (by rw[Sum.inl.inj z];exact ds5))]
  exact ih fun z=>h (ds6 _ z)
theorem bi3 {l:List Int}{n:Int}(h:n∉l):M5 (Q3 l) (Sum.inl n:o3) (V.bl true)=Q3 (l++[n]):=by
 rw[au9 _ (av1 h)];unfold Q3;rw[dt1];rfl
theorem C9 {ns:List Int}{i:Nat}{y:V}(h:(ns.map V.int)[i]? =some y):∃z,ns[i]? =some z/\y= .int z:=by
 rw[ds9] at h
 cases e:ns[i]? with
 |none=>rw[e] at h;cases h
 |some z=>rw[e] at h;exact ⟨z,rfl,(Option.some.inj h).symm⟩
theorem i7 {α:Type}{l:List α}{i:Nat}{x:α}(h:l[i]? =some x):l.take (i+1)=l.take i++[x]:=by
 rw[List.take_add_one,h];rfl
end L2
namespace Mth
theorem ar0 {p:List Int}{i:Int}(h0:0<=i)(h1:i < p.length):L2.atI (p.map L2.V.int) i=some (.int (p.getD i.toNat 0)):=by
 obtain ⟨j,rfl⟩:=dz2 h0;refine L2.K1 ?_
 have hj:j < p.length:=by omega
 rw[ds9,ds2 hj];show some (L2.V.int p[j])=_;rw[dx5];rw[ds7,ds2 hj];rfl
end Mth
namespace L2
open PySem PySem.Spec PyProof.Rows
section
variable {X:Cx} {p pos apos:Pos} {e o:Expr} {es:List Expr} {t:TA} {to:TE}
theorem x8 (ho:PE X o to)(ha:PA X [e] t)
   (hbase:attributeBase o "append" X.env (eval o X.env)=eval o X.env:=by rfl)
   (hfew:((backTo pos (starEach [e] X.env)).all (fun x=> !x.1)&&(backToKw pos (keywordEach [] X.env)).all (fun x=>x.1.isSome)
     &&decide ([e].length+([]:List Keyword).length+(if ([]:List Keyword).isEmpty then 0 else 1) < 30))=true:=by rfl)
   (hline:(apos.endLine==pos.line)=true:=by rfl) (hs:starEach [e] X.env=(false,eval e X.env)::starEach [] X.env:=by rfl) (hplain:(backTo pos (starEach [] X.env)).any (·.1)=false:=by rfl):
   PE X (.Call (.Attribute o "append" apos) [e] [] pos) (tBM X.K "list" by5 to t):=
 bl8 PySem.F.plainAttrs_list PySem.F.slot_list_append PySem.F.type_list_append ci4 ho ha hbase hfew hline hs hplain
theorem bi4 (hm:X.mg "list"=none)(ha:PA X [e] t)(hg:Gl X "list":=by rfl)(he:starEach [e] X.env=(false,eval e X.env)::starEach [] X.env:=by rfl):
   PE X (.Call (.Name "list" p) [e] [] pos) (X8 (fun xs H Q=>∃p ys,xs=[.ref p]/\(i5 X.K H p ys\/T2 X.K H p ys)/\∀l,H l=none->Q (.ref l) (c9 H l (.lst ys))) t):=
 M4 bo0 hg hm aa4 ha (by decide) (by decide) he rfl
theorem ak0 {p2 pos2:Pos}(hc:X.calm=true)(hm:X.mg "list"=none)(hm2:X.mg "range"=none)(ha:PA X [e] t)(hg:Gl X "list":=by rfl)(hg2:Gl X "range":=by rfl)(he:starEach [e] X.env=(false,eval e X.env)::starEach [] X.env:=by rfl)
   (he2:starEach [.Call (.Name "range" p2) [e] [] pos2] X.env=(false,eval (.Call (.Name "range" p2) [e] [] pos2) X.env)::starEach [] X.env:=by rfl):
   PE X (.Call (.Name "list" p) [.Call (.Name "range" p2) [e] [] pos2] [] pos) (X8 (fun xs H Q=>∃p lo hi,xs=[.ref p]/\H p=some (.rng lo hi)/\(-(2^62)<=lo/\lo < 2^62/\ -(2^62)<=hi/\hi < 2^62)/\(hi - lo).toNat<=2^20/\
   ∀l,H l=none->Q (.ref l) (c9 H l (.lst ((n6 lo (hi - lo).toNat).map V.int)))) (ay6 (X8 (fun xs H Q=>∃j,xs=[.int j]/\∀p,H p=none->Q (.ref p) (c9 H p (.rng 0 j))) t) bn5)):=
 M4 (am8 hc) hg hm aa4 (c5 (M4 bw2 hg2 hm2 at4 ha (by decide) (by decide) he rfl) c6 he2) (by decide) (by decide) he2 rfl
theorem an8 (hc:X.calm=true)(hm:X.mg "sum"=none)(ha:PA X [e] t)(hg:Gl X "sum":=by rfl)(he:starEach [e] X.env=(false,eval e X.env)::starEach [] X.env:=by rfl):
   PE X (.Call (.Name "sum" p) [e] [] pos) (X8 (fun xs H Q=>∃(p:Addr) (ns:List Int),xs=[.ref p]/\i5 X.K H p (ns.map V.int)/\Q (.int ns.sum) H) t):=
 O2 (cj4 hc) hg hm cj6 ha (by decide) (by decide) he rfl
theorem bd5 {a b:Expr}(hc:X.calm=true)(hm:X.mg "min"=none)(ha:PA X [a,b] t)(hg:Gl X "min":=by rfl)(he:starEach [a,b] X.env=(false,eval a X.env)::starEach [b] X.env:=by rfl)(hpl:(backTo pos (starEach [b] X.env)).any (·.1)=false:=by rfl):
   PE X (.Call (.Name "min" p) [a,b] [] pos) (X8 (fun xs H Q=>∃i j,xs=[.int i,.int j]/\Q (.int (if j < i then j else i)) H) t):=
 O2 (ch9 hc) hg hm cj7 ha (by decide) (by decide) he hpl
theorem cz6 {a b:Expr}(hc:X.calm=true)(hm:X.mg "max"=none)(ha:PA X [a,b] t)(hg:Gl X "max":=by rfl)(he:starEach [a,b] X.env=(false,eval a X.env)::starEach [b] X.env:=by rfl)(hpl:(backTo pos (starEach [b] X.env)).any (·.1)=false:=by rfl):
   PE X (.Call (.Name "max" p) [a,b] [] pos) (X8 (fun xs H Q=>∃i j,xs=[.int i,.int j]/\Q (.int (if j > i then j else i)) H) t):=
 O2 (ch8 hc) hg hm cj8 ha (by decide) (by decide) he hpl
end
end L2
namespace Mth
theorem az4 {α:Type}:∀{l:List α} {k:Nat} {y:α},l[k]? =some y->(y::l.eraseIdx k).Perm l
 |[],k,y,h=>by simp at h
 |a::r,0,y,h=>by
  simp at h;subst h;exact List.Perm.refl _
 |a::r,k+1,y,h=>by
  have h':r[k]? =some y:=by simpa using h
  have ih:=az4 h';show (y::a::r.eraseIdx k).Perm (a::r);exact (List.Perm.swap a y _).trans (ih.cons a)
theorem cd6 {u s:Int}(h1:0<=u)(h2:u < 10000001000)(h3:0<=s)(h4:s<=1000001):0<=u*(37*s+67)+3557*s*s/\u*(37*s+67)+3557*s*s < 2^64:=by
 have a1:0<=37*s+67:=by omega
 have a2:37*s+67<=37000200:=by omega
 have b1:0<=u*(37*s+67):=Int.mul_nonneg h1 a1;have b2:u*(37*s+67)<=10000001000*37000200:=Int.mul_le_mul (by omega) a2 a1 (by omega)
 have c0:0<=3557*s:=by omega
 have c1:0<=3557*s*s:=Int.mul_nonneg c0 h3;have c2:3557*s*s<=(3557*1000001)*1000001:=Int.mul_le_mul (by omega) h4 h3 (by omega)
 have e:(2:Int)^64=18446744073709551616:=by decide
 rw[e];omega
end Mth
namespace L2
open PySem PySem.Spec PyProof.Rows
def dl3 (K:PySem.W.Frag)(ta:TA):TE:=X8 (fun xs H Q=>∃p ys,xs=[.ref p]/\(i5 K H p ys\/T2 K H p ys)/\Q (.int ys.length) H) ta
section
variable {X:Cx} {p pos:Pos} {e:Expr} {t:TA}
theorem cr0 (K:PySem.W.Frag)(hm:X.mg "len"=none)(ha:PA X [e] t)(hK:X.K=K:=by rfl)(hg:Gl X "len":=by rfl)
   (he:starEach [e] X.env=(false,eval e X.env)::starEach [] X.env:=by rfl):PE X (.Call (.Name "len" p) [e] [] pos) (dl3 K t):=by
 subst hK;exact y7 hm ha hg he
end
theorem cr1 (n:Nat):(dw8 n [V.int 0]).flatten=(dw8 n (0:Int)).map V.int:=by
 induction n with
 |zero=>rfl
 |succ n ih=>rw[ec8,dt9,ih,ec8,du9];rfl
def cx0:V->Int
 | .int i=>i
 |_=>0
end L2
namespace Mth
theorem az5 {fs:List Int}{u v x:Int}(hu:0<=u)(hv:0<=v)(h:u≠v):A1 (fs.set v.toNat x) u=A1 fs u:=by
 unfold A1;rw[ek9 (by omega)]
theorem av2 {fs:List Int}{v x:Int}(h:v.toNat < fs.length):A1 (fs.set v.toNat x) v=some x:=by
 unfold A1;rw[ek0 h]
theorem N3 {ts:List Int}{i:Nat}(h:i < ts.length):ts.getD i 0=ts[i]:=by
 rw[ds7,ds2 h];rfl
theorem aa5 {ts:List Int}(nd:ts.Nodup){i j:Nat}(hi:i < ts.length)(hj:j < ts.length)(h:i≠j):ts.getD i 0≠ts.getD j 0:=by
 rw[N3 hi,N3 hj]
 rcases Nat.lt_or_gt_of_ne h with z|z
 · exact dv6.mp (du4.mp nd) i j hi hj z
 · exact fun e=>dv6.mp (du4.mp nd) j i hj hi z e.symm
end Mth
namespace L2
open PySem PySem.Spec PyProof.Rows
theorem i8.free {a l:Addr}{H H':Hp}(k:i8 a H H')(h:H' l=none)(n:l≠a):H l=none:=by
 cases e:H l with
 |none=>rfl
 |some o=>have:=k l o e n;rw[h] at this;cases this
theorem e8.kb {a:Addr}{H H1 H2:Hp}(s:e8 H H1)(k:i8 a H1 H2)(h:H a=none):e8 H H2:=fun b o e=>k b o (s b o e) (g6 e h)
def m9 (H:Hp)(as:List Addr)(rs:List (List Int)):Prop:=as.length=rs.length/\∀(j:Nat) a r,as[j]? =some a->rs[j]? =some r->H a=some (.lst (r.map V.int))
end L2
namespace Mth
theorem cr2 {p:List Int}(t:o6 p){j:Nat}(h:j < p.length):0<=p.getD j 0/\p.getD j 0 < p.length:=by
 rw[N3 h];exact ⟨t.lo _ (dw2 h),t.hi _ (dw2 h)⟩
end Mth
namespace L2
open PySem PySem.Spec PyProof.Rows
def Ite (K:PySem.W.Frag)(a:Addr):It:=
 ⟨fun i H=>∃xs x,i5 K H a xs/\xs[i]? =some x,fun i H v H'=>∃x t,(∀xs,i5 K H a xs->xs[i]? =some x)/\H t=none/\v= .ref t/\H'=c9 H t (.tup [.int (i:Int),x]),fun i H=>∃xs,i5 K H a xs/\xs.length<=i⟩
theorem ck2 {P:Program}{w:World}{K:PySem.W.Frag}{elts:List Expr}{x1}{pos:Pos}(a e it:Addr)(hne:e≠it):
   bd1 P w K (.Tuple elts x1 pos) (Ite K a) [e,it] e (fun i h=>(∃old,IsEnum h e it i old)/\h.IsListIter it a i) where
 mem:=by simp
 obj:=fun i h st b hb=>by
   obtain ⟨⟨old,he⟩,⟨o,ho,c,d⟩⟩:=st
   have hb:b=e\/b=it:=by simpa using hb
   rcases hb with rfl|rfl
   · exact ⟨_,he,fun v z=>by cases z⟩
   · exact ⟨o,ho,fun v z=>by rw[d] at z;cases z⟩
 keep:=fun i h h' st k=>⟨let ⟨old,he⟩:=st.1;⟨old,k e (by simp) _ he⟩,st.2.at fun o q=>k it (by simp) o q⟩
 item:=by
   intro X hP hw hK hc i pins s σ H E I hf st hg;subst hP hw hK;obtain ⟨⟨old,he⟩,hit⟩:=st;obtain ⟨xs,x,hq,hx⟩:=hg;obtain ⟨its,rv,p,hz⟩:=I.list hq;obtain ⟨u,hu,ru⟩:=rv.get hx;obtain ⟨f0,f1,f2,f3,f4,f5⟩:=hf e (by simp);obtain ⟨g0,g1,g2,g3,g4,g5⟩:=hf it (by simp)
   refine wpAny_pyNext_enum_item he hit p.isList (x:=u) (by simpa using hu) hne fun h' he' hit' ht' hz' hk'=> ?_
   refine ⟨_,rfl,wpAny_letOwnedTupleGo_enum he' fun h2 he2 hs2=> ?_⟩;have hs2:Heap.SameBut e h' h2:=hs2;have eT:e≠s.heap.objs.size:=dw3 (Heap.lt_size he);have ht2:h2.get? s.heap.objs.size=some {cls:= .type "tuple",data:= .seq #[.int i s.toks,u]}:=hs2.extBut _ _ eT.symm ht'
   have kk:∀b o,b≠e->b≠it->s.heap.get? b=some o->h2.get? b=some o:=fun b o b1 b2 q=>hs2.extBut b o b1 (hk' b o b1 b2 q)
   have hn:H s.heap.objs.size=none:=I.hok.fresh (ds4 _)
   have nT:∀b u',H b=some u'->b≠s.heap.objs.size:=fun b u' q=>g6 q hn
   have ne:∀b u',H b=some u'->b≠e/\b≠it:=fun b u' q=>⟨fun z=>(by rw[z,f0] at q;cases q),fun z=>(by rw[z,g0] at q;cases q)⟩
   have I1:g9 X pins σ (c9 H s.heap.objs.size (.tup [.int (i:Int),x])) {s with heap:=h2,gens:=s.gens,drawn:=s.drawn,toks:=s.toks+1}:=by
     refine I.step (ch:=[e,it]) (fun b hb=> ?_) (fun b o _ _ hc q _=>kk b o (fun z=>hc (by simp [z])) (fun z=>hc (by simp [z])) q) (fun b o _ _ hc q _=>⟨o.slots,kk b o (fun z=>hc (by simp [z])) (fun z=>hc (by simp [z])) q⟩)
       (fun b o hc q n=>by rw[g8 (dw3 (Heap.lt_size q))];exact n) (fun b o hc q=>⟨o,kk b o (fun z=>hc (by simp [z])) (fun z=>hc (by simp [z])) q⟩)
       (fun b ys q=>by rw[g8 (nT b _ q)];exact q) (fun b o ys q=>by rw[g8 (nT b _ q)];exact q) (fun b ps q=>⟨#[],by rw[g8 (nT b _ q),q];simp⟩) (fun m hm=> ?_) (fun b u' q=> ?_) I.bare
     · have hb:b=e\/b=it:=by simpa using hb
       rcases hb with rfl|rfl
       · exact ⟨f3,f1,f4,f5⟩
       · exact ⟨g3,g1,g4,g5⟩
     · obtain ⟨o,es,ep,ho,r⟩:=hm;exact ⟨o,es,ep,kk _ o (Ne.symm f1) (Ne.symm g1) ho,r⟩
     · by_cases hb:b=s.heap.objs.size
       · subst hb;rw[c8] at q;cases q;exact ⟨by show 2<=sizeLine;decide,[.int i s.toks,u],.cons ⟨_,rfl⟩ (.cons ru .nil),⟨_,ht2,rfl,0,rfl⟩⟩
       · rw[g8 hb] at q
         refine (I.hok b u' q).stay (fun c v hc q'=> ?_) (fun c q'=>by rw[g8 (nT c _ q')];exact q') fun c ys q'=>by rw[g8 (nT c _ q')];exact q'
         rcases hc with z|z
         · rw[z] at q' ⊢;exact kk b v (ne b _ q).1 (ne b _ q).2 q'
         · exact kk c v (ne c _ z).1 (ne c _ z).2 q'
   refine ⟨.ref s.heap.objs.size,_,I1,rfl,⟨x,s.heap.objs.size,fun ys hy=>by rw[I.list_inj hy hq];exact hx,hn,rfl,rfl⟩,⟨⟨u,?_⟩,?_⟩,fun b hb=> ?_⟩
   · have:((i+1:Nat):Int)=(i:Int)+1:=by push_cast;rfl
     rw[this];exact he2
   · exact hit'.extBut hs2.extBut hne.symm
   · have hb:b=e\/b=it:=by simpa using hb
     rcases hb with rfl|rfl
     · rw[g8 eT];exact f0
     · obtain ⟨o,ho,_⟩:=hit;rw[g8 (dw3 (Heap.lt_size ho))];exact g0
 done:=by
   intro X hP hw hK hc i pins s σ H E I hf st hg;subst hP hw hK;obtain ⟨⟨old,he⟩,hit⟩:=st;obtain ⟨xs,hq,hx⟩:=hg;obtain ⟨its,rv,p,hz⟩:=I.list hq;obtain ⟨g0,g1,g2,g3,g4,g5⟩:=hf it (by simp);have hl:=rv.length
   exact wpAny_pyNext_enum_end (I.ok.hd hc) he hit p.isList (by simp;omega) fun h' eb=>⟨rfl,I.turned (t':=s.toks) (fun b o hb q=>eb b o hb q) g0 g1 g3 g4 g5⟩
 self:=fun _ _ _ _ _ st h=>let ⟨_,he⟩:=st.1;wpAny_pyIter_enum he h
theorem ck3:bootBuiltins "enumerate"=some (.type "enumerate"):=by decide+kernel
section
variable {X:Cx} {l:Expr} {ta:TA} {p pos:Pos} {elts:List Expr} {x1:Nat} {tpos:Pos}
def dl4 (K:PySem.W.Frag)(ta:TA):TI:=fun σ H R=>ta σ H fun vs H1=>∃a,vs=[.ref a]/\(∃xs,i5 K H1 a xs)/\R (Ite K a) H1
theorem ai1 (hm:X.mg "enumerate"=none)(ha:PA X [l] ta)(hg:Gl X "enumerate":=by rfl)(hs:starEach [l] X.env=[(false,eval l X.env)]:=by rfl):PI X (.Tuple elts x1 tpos) (.Call (.Name "enumerate" p) [l] [] pos) (dl4 X.K ta):=by
 intro pins s σ H R I h;refine Call_ (X6 I hg hm ck3 (PyProof.Rows.callWith_type1 (p6 (ha pos pins s σ H _ I h) fun us s1 ⟨vs,H1,I1,r1,q1⟩=> ?_) hs rfl));obtain ⟨a,e,⟨xs,hq⟩,q⟩:=q1;subst e;obtain ⟨u,rfl,rx⟩:=Q2 r1;cases rx;obtain ⟨its,rv,pl,hz⟩:=I1.list hq
 refine call_enumerate_list pl.isList fun h' he hit hz' hk=> ?_
 refine wpAny_pyIter_enum he ?_;have I2:g9 X pins σ H1 {s1 with heap:=h',toks:=s1.toks}:=I1.kept (t':=s1.toks) hk;refine ⟨s1.heap.objs.size+1,[s1.heap.objs.size+1,s1.heap.objs.size],_,_,H1,rfl,I2,ck2 a (s1.heap.objs.size+1) s1.heap.objs.size (Nat.succ_ne_self _),⟨⟨.none,he⟩,hit⟩,fun b hb=> ?_,q⟩
 have hb:b=s1.heap.objs.size+1\/b=s1.heap.objs.size:=by simpa using hb
 rcases hb with rfl|rfl
 · exact I1.fpOk (by omega) (I1.hok.fresh (by omega))
 · exact I1.fpOk (by omega) (I1.hok.fresh (by omega))
end
theorem ac8 {K:PySem.W.Frag}{a:Addr}{xs:List V}{g:TG}{tb:TS}{D:ab9}{σ:St}{H:Hp}(Pv:Nat->St->Hp->Prop)(h0:Pv 0 σ H)(hl:∀i σ H,i<=xs.length->Pv i σ H->i5 K H a xs)
   (hs:∀i x σ H t,xs[i]? =some x->Pv i σ H->H t=none->g (.ref t) σ (c9 H t (.tup [.int (i:Int),x])) fun σ2 H2=>tb {D with nx:=Pv (i+1),ct:=Pv (i+1),bk:=D.nx} σ2 H2) (hd:∀σ H,Pv xs.length σ H->D.nx σ H):
   ∃W:Nat->Nat->St->Hp->Prop,(∃m,W 0 m σ H)/\∀i m σ H,W i m σ H->
    ((Ite K a).stop i H/\D.nx σ H)\/((Ite K a).go i H/\∃N:St->Hp->Prop,(∀σ' H',N σ' H'->∃m',m' < m/\W (i+1) m' σ' H')/\∀x H',(Ite K a).yld i H x H'->g x σ H' fun σ2 H2=>tb {D with nx:=N,ct:=N,bk:=D.nx} σ2 H2):=by
 refine ⟨fun i m σ H=>m=xs.length - i/\i<=xs.length/\Pv i σ H,⟨xs.length,by simp,du3 _,h0⟩,?_⟩;rintro i m σ H ⟨rfl,hi,p⟩;have q:=hl i σ H hi p
 by_cases hlt:i < xs.length
 · refine .inr ⟨⟨xs,xs[i],q,by simp [hlt]⟩,Pv (i+1),fun σ' H' p'=>⟨xs.length - (i+1),by omega,rfl,hlt,p'⟩,fun x H' y=> ?_⟩;obtain ⟨x',t,y1,y2,e1,e2⟩:=y;subst e1 e2;exact hs i x' σ _ t (y1 xs q) p y2
 · have e:i=xs.length:=by omega
   subst e;exact .inl ⟨⟨xs,q,ds4 _⟩,hd σ H p⟩
end L2
namespace Mth
def nx (p:List Int)(x:Int):Int:=p.getD x.toNat 0
def it (p:List Int):Nat->Int->Int
 |0,x=>x
 |i+1,x=>nx p (it p i x)
def In (p:List Int)(x:Int):Prop:=0<=x/\x < p.length
theorem cd7 {p:List Int}(t:o6 p){x:Int}(h:In p x):In p (nx p x):=cr2 t (j:=x.toNat) (by have:=h.1;have:=h.2;omega)
theorem bo5 {p:List Int}(t:o6 p){x y:Int}(hx:In p x)(hy:In p y)(h:nx p x=nx p y):x=y:=by
 have a1:=hx.1;have a2:=hx.2;have b1:=hy.1;have b2:=hy.2
 by_cases e:x.toNat=y.toNat
 · omega
 · exact absurd h (aa5 t.nd (i:=x.toNat) (j:=y.toNat) (by omega) (by omega) e)
theorem L1 {p:List Int}(t:o6 p){x:Int}(h:In p x):∀i,In p (it p i x)
 |0=>h
 |i+1=>cd7 t (L1 t h i)
theorem D1 (p:List Int)(x:Int):∀i j,it p (i+j) x=it p i (it p j x)
 |0,j=>by rw[ee8];rfl
 |i+1,j=>by
  rw[Nat.add_right_comm];show nx p (it p (i+j) x)=nx p (it p i (it p j x));rw[D1 p x i j]
theorem cz7 (p:List Int)(x:Int)(i:Nat):it p (i+1) x=it p i (nx p x):=by
 rw[D1 p x i 1];rfl
theorem az6 {p:List Int}(t:o6 p){x y:Int}(hx:In p x)(hy:In p y):∀i,it p i x=it p i y->x=y
 |0,h=>h
 |i+1,h=>az6 t hx hy i (bo5 t (L1 t hx i) (L1 t hy i) h)
structure D7 (p:List Int)(x:Int)(L:Nat):Prop where
 pos:0 < L
 back:it p L x=x
 least:∀i,0 < i->i < L->it p i x≠x
theorem D7.uniq {p:List Int}{x:Int}{L M:Nat}(h:D7 p x L)(g:D7 p x M):L=M:=by
 rcases Nat.lt_trichotomy L M with z|z|z
 · exact absurd h.back (g.least L h.pos z)
 · exact z
 · exact absurd g.back (h.least M g.pos z)
theorem an9 {p:List Int}{x:Int}{L:Nat}(h:it p L x=x):∀q,it p (L*q) x=x
 |0=>by rw[ee9];rfl
 |q+1=>by rw[en4,D1,h,an9 h q]
theorem U3 {p:List Int}{x:Int}{L:Nat}(h:it p L x=x)(i:Nat):it p (i%L) x=it p i x:=by
 conv=>rhs;rw[<-el4 i L,ec4,D1,an9 h]
theorem cz8 {p:List Int}{x:Int}{L:Nat}(h:it p L x=x){a b:Nat}(e:a%L=b%L):it p a x=it p b x:=by
 rw[<-U3 h a,e,U3 h]
theorem D7.shift {p:List Int}(t:o6 p){x:Int}{L:Nat}(hx:In p x)(h:D7 p x L)(j:Nat):D7 p (it p j x) L:=by
 refine ⟨h.pos,?_,fun i i0 i1 e=> ?_⟩
 · rw[<-D1,ec4,D1,h.back]
 · rw[<-D1,ec4,D1] at e;exact h.least i i0 i1 (az6 t (L1 t hx i) hx j e)
def m7 (p:List Int)(x:Int)(L:Nat):List Int:=(dv4 L).map fun i=>it p i x
theorem n9 (p:List Int)(x:Int)(L:Nat):(m7 p x L).length=L:=by unfold m7;rw[ds1,dw1]
theorem T5 {p:List Int}{x:Int}{L j:Nat}(h:j < L):(m7 p x L)[j]? =some (it p j x):=by
 unfold m7;rw[ds9,dw9 h];rfl
theorem aa6 {p:List Int}{x:Int}{L j:Nat}(h:j < L):(m7 p x L).getD j 0=it p j x:=by
 rw[ds7,T5 h];rfl
theorem B9 {p:List Int}{x y:Int}{L:Nat}:y∈m7 p x L↔∃j,j < L/\y=it p j x:=by
 unfold m7;rw[dt0];constructor
 · rintro ⟨j,hj,rfl⟩;exact ⟨j,dv0.mp hj,rfl⟩
 · rintro ⟨j,hj,rfl⟩;exact ⟨j,dv0.mpr hj,rfl⟩
theorem cd8 (p:List Int)(x:Int)(m:Nat):m7 p x (m+1)=m7 p x m++[it p m x]:=by
 unfold m7;rw[ef1,dt1];rfl
theorem X2 {p:List Int}(t:o6 p){x:Int}(hx:In p x){m:Nat}(h:∀i,0 < i->i < m->it p i x≠x):(m7 p x m).Nodup:=by
 unfold m7;rw[du4,eb6];refine List.Pairwise.imp_of_mem (fun {a b} ha hb hlt e=> ?_) List.pairwise_lt_range;have hb:=dv0.mp hb
 have e2:b=a+(b - a):=by omega
 rw[e2,D1] at e;exact h (b - a) (by omega) (by omega) (az6 t (L1 t hx _) hx a e.symm)
theorem ck4:∀(n:Nat) (l:List Nat),l.Nodup->(∀x∈l,x < n)->l.length<=n:=by
 intro n
 induction n with
 |zero=>
  intro l _ hb
  cases l with
  |nil=>exact ds4 _
  |cons a r=>exact absurd (hb a ds5) (Nat.not_lt_zero _)
 |succ n ih=>
  intro l nd hb
  by_cases hn:n∈l
  · obtain ⟨s,u,rfl⟩:=em3 hn;have pm:(s++n::u).Perm (n::(s++u)):=List.perm_middle;obtain ⟨h1,h2⟩:=dw4.mp (pm.nodup_iff.mp nd)
    have:=ih (s++u) h2 fun x hx=>by
      have hx':=hb x (pm.mem_iff.mpr (ds6 _ hx))
      have:x≠n:=fun e=>h1 (e▸hx)
      omega
    rw[pm.length_eq,dv9];omega
  · exact Nat.le_succ_of_le (ih l nd fun x hx=>by
      have h1:=hb x hx
      have:x≠n:=fun e=>hn (e▸hx)
      omega)
theorem J2 {p:List Int}{r:List Int}(nd:r.Nodup)(h:∀x∈r,In p x):r.length<=p.length:=by
 have:=ck4 p.length (r.map el2) (by
   rw[du4,eb6];refine List.Pairwise.imp_of_mem (fun {a b} ha hb hne z=>hne ?_) (du4.mp nd);have h1:=(h a ha).1;have h2:=(h b hb).1
   omega) fun x hx=>by
     obtain ⟨y,hy,rfl⟩:=dt0.mp hx;have h1:=(h y hy).1;have h2:=(h y hy).2;omega
 rw[ds1] at this;exact this
theorem W4 {p:List Int}(t:o6 p){x:Int}(hx:In p x){L:Nat}:∀y∈m7 p x L,In p y:=fun y hy=>by
 obtain ⟨j,_,rfl⟩:=B9.mp hy;exact L1 t hx j
theorem I0 {p:List Int}(t:o6 p){x:Int}(hx:In p x){m:Nat}(h:∀i,0 < i->i < m->it p i x≠x):m<=p.length:=by
 have:=J2 (X2 t hx h) (W4 t hx);rw[n9] at this;exact this
theorem bw4 {p:List Int}{x y:Int}{L:Nat}(h:D7 p x L)(hy:y∈m7 p x L)(i:Nat):it p i y∈m7 p x L:=by
 obtain ⟨j,hj,rfl⟩:=B9.mp hy;refine B9.mpr ⟨(i+j)%L,ea6 _ h.pos,?_⟩;rw[U3 h.back,D1]
theorem ck5 {p:List Int}{x y z:Int}{L M:Nat}(h:D7 p x L)(g:D7 p y M)(h1:z∈m7 p x L)(h2:z∈m7 p y M):y∈m7 p x L:=by
 obtain ⟨j,hj,rfl⟩:=B9.mp h2;have:=bw4 h h1 (M - j);rw[<-D1,show M - j+j=M by omega,g.back] at this;exact this
open Classical in
noncomputable def G0 (p:List Int)(x:Int):Nat:=if h:∃L,D7 p x L then Classical.choose h else 0
theorem S6 {p:List Int}{x:Int}{L:Nat}(h:D7 p x L):G0 p x=L:=by
 have hx:∃L,D7 p x L:=⟨L,h⟩;unfold G0;rw[dif_pos hx];exact (Classical.choose_spec hx).uniq h
noncomputable def j9 (p:List Int):Nat->List (List Int)
 |0=>[]
 |i+1=>if (i:Int)∈(j9 p i).flatten then j9 p i else j9 p i++[m7 p i (G0 p i)]
structure y8 (p:List Int)(i:Nat)(rs:List (List Int)):Prop where
 ring:∀r∈rs,∃x L,In p x/\D7 p x L/\r=m7 p x L/\(∀y∈r,x<=y)/\x < i
 nd:rs.flatten.Nodup
 all:∀u:Int,0<=u->u < i->u∈rs.flatten
 ord:rs.Pairwise fun r s=>r.getD 0 0 < s.getD 0 0
 eq:rs=j9 p i
theorem az7 (p:List Int):y8 p 0 []:=⟨fun r hr=>by simp at hr,dz9,fun u h1 h2=>by omega,List.Pairwise.nil,rfl⟩
theorem az8 {p:List Int}{i:Nat}{rs:List (List Int)}(h:y8 p i rs)(hi:(i:Int)∈rs.flatten):y8 p (i+1) rs:=by
 refine ⟨fun r hr=> ?_,h.nd,fun u h1 h2=> ?_,h.ord,?_⟩
 · obtain ⟨x,L,a,b,c,d,e⟩:=h.ring r hr;exact ⟨x,L,a,b,c,d,by omega⟩
 · by_cases e:u=i
   · subst e;exact hi
   · exact h.all u h1 (by omega)
 · show rs=if (i:Int)∈(j9 p i).flatten then j9 p i else j9 p i++[m7 p i (G0 p i)]
   rw[<-h.eq,if_pos hi]
theorem at6 {p:List Int}{i:Nat}{rs:List (List Int)}(h:y8 p i rs){L:Nat}(hL:D7 p i L)(hi:(i:Int)∉rs.flatten):∀y∈m7 p i L,y∉rs.flatten:=by
 intro y hy hm;obtain ⟨r,hr,hyr⟩:=du6.mp hm;obtain ⟨x,M,a,b,rfl,d,e⟩:=h.ring r hr;exact hi (du6.mpr ⟨_,hr,ck5 b hL hyr hy⟩)
theorem az9 {p:List Int}(t:o6 p){i:Nat}{rs:List (List Int)}(h:y8 p i rs)(hx:In p i){L:Nat}(hL:D7 p i L)(hi:(i:Int)∉rs.flatten):y8 p (i+1) (rs++[m7 p i L]):=by
 have fr:=at6 h hL hi;refine ⟨fun r hr=> ?_,?_,fun u h1 h2=> ?_,?_,?_⟩
 · rcases dt4.mp hr with z|z
   · obtain ⟨x,L,a,b,c,d,e⟩:=h.ring r z;exact ⟨x,L,a,b,c,d,by omega⟩
   · have:r=m7 p i L:=by simpa using z
     subst this;refine ⟨i,L,hx,hL,rfl,fun y hy=> ?_,by omega⟩;have y0:=(W4 t hx y hy).1
     by_cases hlt:y < i
     · exact absurd (h.all y y0 hlt) (fr y hy)
     · omega
 · rw[dx0,dz6];refine dy3.mpr ⟨h.nd,X2 t hx fun j j0 j1=>hL.least j j0 j1,fun a ha b hb e=> ?_⟩;subst e;exact fr a hb ha
 · rw[dx0,dz6]
   by_cases e:u=i
   · subst e;exact dv5 _ (B9.mpr ⟨0,hL.pos,rfl⟩)
   · exact dy4 _ (h.all u h1 (by omega))
 · refine List.pairwise_append.mpr ⟨h.ord,eg2 _ _,fun r hr s hs=> ?_⟩
   have:s=m7 p i L:=by simpa using hs
   subst this;obtain ⟨x,M,a,b,rfl,d,e⟩:=h.ring r hr;rw[aa6 b.pos,aa6 hL.pos];exact e
 · show rs++[m7 p i L]=if (i:Int)∈(j9 p i).flatten then j9 p i else j9 p i++[m7 p i (G0 p i)]
   rw[<-h.eq,if_neg hi,S6 hL]
def B7 (p:List Int)(k:Int)(t:List Int):Prop:=t.length=p.length/\∀x,In p x->∃L,D7 p x L/\A1 t x=some (it p (k%(L:Int)).toNat x)
end Mth
namespace Mth
theorem ai2 {p:List Int}{x:Int}(h:In p x):A1 p x=some (nx p x):=by
 have a1:=h.1;have a2:=h.2;unfold A1 nx;rw[ds7,ds2 (by omega)];rfl
end Mth
namespace L2
open PySem PySem.Spec PyProof.Rows
def dl5 (i j:Int):Prop:=0 < j/\j<=1000000000000000000000000000000
theorem bo6 {X:Cx}:N8 X (binaryOp .FloorDiv) (rI dl5 fun i j=> .int (i/j)):=opI fun i j _ _ _ _ _ hc q=>by
 have hp:Builtin.divisionGoesByPylong i j=false:=by
   refine PyProof.noPylong_of_log2 ?_;obtain ⟨h1,h2⟩:=hc;have:j.natAbs < 2^9000:=dw0 (show j.natAbs<=1000000000000000000000000000000 by omega) (by decide+kernel);exact (Nat.log2_lt (by omega)).mpr this
 refine floordiv_int (by have:=hc.1;omega) ?_ (.inl hp);rw[ei1 i (by have:=hc.1;omega)];exact q
end L2
namespace Mth
theorem B7.uniq {p:List Int}{k:Int}{s t:List Int}(h:B7 p k s)(g:B7 p k t):s=t:=by
 refine dx9 fun u=> ?_
 by_cases hu:u < p.length
 · have hx:In p (u:Int):=⟨by omega,by omega⟩;obtain ⟨L,h1,h2⟩:=h.2 u hx;obtain ⟨M,g1,g2⟩:=g.2 u hx;have e:=h1.uniq g1;subst e;unfold A1 at h2 g2;rw[dx5] at h2 g2;rw[h2,g2]
 · rw[dt5 (by rw[h.1];omega),dt5 (by rw[g.1];omega)]
end Mth
namespace Mth
theorem ba0 {p:List Int}(t:o6 p){x:Int}(hx:In p x):∃L,D7 p x L:=by
 have h0:∃i,0 < i/\i<=p.length/\it p i x=x:=Classical.byContradiction fun hn=>by
   have:=I0 t hx (m:=p.length+1) fun i i0 i1 e=>hn ⟨i,i0,by omega,e⟩
   omega
 have key:∀n,(∃i,0 < i/\i<=n/\it p i x=x)->∃L,D7 p x L:=by
   intro n
   induction n with
   |zero=>rintro ⟨i,i0,i1,_⟩;omega
   |succ n ih=>
    rintro ⟨i,i0,i1,e⟩
    by_cases h:∃j,0 < j/\j<=n/\it p j x=x
    · exact ih h
    · refine ⟨i,i0,e,fun j j0 j1 ej=>h ⟨j,j0,by omega,ej⟩⟩
 exact key _ h0
theorem by7 {p:List Int}{x:Int}{L:Nat}(h:D7 p x L){i:Nat}(e:it p i x=x):L∣i:=by
 rw[<-U3 h.back] at e;refine eb5 (Classical.byContradiction fun hn=> ?_);exact h.least (i%L) (by omega) (ea6 _ h.pos) e
theorem bo7 {p:List Int}{x:Int}{L:Nat}(h:D7 p x L){a b:Nat}(e:((a:Int) - (b:Int))%(L:Int)=0):it p a x=it p b x:=by
 refine cz8 h.back ?_
 have:((a%L:Nat):Int)=((b%L:Nat):Int):=by
   rw[ec9,ec9]
   exact Int.emod_emod_of_dvd _ (Int.dvd_refl _)|>.symm.trans (by
     rw[Int.emod_emod]
     exact (Int.emod_eq_emod_iff_emod_sub_eq_zero).mpr e)
 exact Int.ofNat.inj this
theorem bi5 {t:List Int}(h1:∀x:Int,0<=x->x < t.length->0<=nx t x/\nx t x < t.length)(h2:∀x y:Int,0<=x->x < t.length->0<=y->y < t.length->nx t x=nx t y->x=y):o6 t:=by
 have g:∀i (hi:i < t.length),nx t (i:Int)=t[i]:=fun i hi=>by unfold nx;rw[dx5,N3 hi]
 refine ⟨?_,fun x hx=> ?_,fun x hx=> ?_⟩
 · rw[du4,dv6];intro i j hi hj hlt e;have:=h2 i j (by omega) (by omega) (by omega) (by omega) (by rw[g i hi,g j hj];exact e);omega
 · obtain ⟨i,hi,rfl⟩:=List.mem_iff_getElem.mp hx;rw[<-g i hi];exact (h1 i (by omega) (by omega)).1
 · obtain ⟨i,hi,rfl⟩:=List.mem_iff_getElem.mp hx;rw[<-g i hi];exact (h1 i (by omega) (by omega)).2
theorem ck6 {p t:List Int}{k:Int}(h:B7 p k t){x:Int}(hx:In p x):∃L,D7 p x L/\∀m:Nat,((m:Int) - k)%(L:Int)=0->nx t x=it p m x:=by
 obtain ⟨L,hL,e⟩:=h.2 x hx;refine ⟨L,hL,fun m hm=> ?_⟩
 have e1:nx t x=it p (k%(L:Int)).toNat x:=by
   have hx':In t x:=⟨hx.1,by rw[h.1];exact hx.2⟩;rw[ai2 hx'] at e;exact Option.some.inj e
 rw[e1];refine bo7 hL ?_;have b0:=ed4 k (show (L:Int)≠0 by have:=hL.pos;omega);rw[el8 b0]
 have:k%(L:Int) - (m:Int)= -(((m:Int) - k)+(k - k%(L:Int))):=by omega
 rw[this];have d1:(L:Int)∣((m:Int) - k):=Int.dvd_of_emod_eq_zero hm;have d2:(L:Int)∣(k - k%(L:Int)):=ek4;exact ej1 (Int.dvd_neg.mpr (Int.dvd_add d1 d2))
theorem dg6 {p t:List Int}{k:Int}(tp:o6 p)(hl:t.length=p.length)(h:∀x,In p x->∀L,D7 p x L->∃m:Nat,((m:Int) - k)%(L:Int)=0/\nx t x=it p m x):B7 p k t:=by
 refine ⟨hl,fun x hx=> ?_⟩;obtain ⟨L,hL⟩:=ba0 tp hx;obtain ⟨m,hm,e⟩:=h x hx L hL;refine ⟨L,hL,?_⟩;rw[ai2 (p:=t) ⟨hx.1,by rw[hl];exact hx.2⟩,e]
 congr 1
 refine bo7 hL ?_;have b0:=ed4 k (show (L:Int)≠0 by have:=hL.pos;omega);rw[el8 b0]
 have:(m:Int) - k%(L:Int)=((m:Int) - k)+(k - k%(L:Int)):=by omega
 rw[this];exact ej1 (Int.dvd_add (Int.dvd_of_emod_eq_zero hm) ek4)
theorem cr3 (k:Int)(L:Nat)(h:0 < L):(((k%(L:Int)).toNat:Int) - k)%(L:Int)=0:=by
 have b0:=ed4 k (show (L:Int)≠0 by omega);rw[el8 b0]
 have:k%(L:Int) - k= -(k - k%(L:Int)):=by omega
 rw[this];exact ej1 (Int.dvd_neg.mpr ek4)
theorem cz9 {p t:List Int}{k:Int}(tp:o6 p)(h:B7 p k t):o6 t:=by
 have tx:∀x,In p x->∃L,D7 p x L/\nx t x=it p (k%(L:Int)).toNat x:=fun x hx=>by
   obtain ⟨L,hL,e⟩:=ck6 h hx;exact ⟨L,hL,e _ (cr3 k L hL.pos)⟩
 refine bi5 (fun x x0 x1=> ?_) (fun x y x0 x1 y0 y1 e=> ?_)
 · rw[h.1] at x1 ⊢;obtain ⟨L,hL,e⟩:=tx x ⟨x0,x1⟩;rw[e];exact L1 tp ⟨x0,x1⟩ _
 · rw[h.1] at x1 y1;obtain ⟨L,hL,e1⟩:=tx x ⟨x0,x1⟩;obtain ⟨M,hM,e2⟩:=tx y ⟨y0,y1⟩;rw[e1,e2] at e;have pL:=hL.shift tp ⟨x0,x1⟩ (k%(L:Int)).toNat;have pM:=hM.shift tp ⟨y0,y1⟩ (k%(M:Int)).toNat;rw[e] at pL;have:=pL.uniq pM;subst this;exact az6 tp ⟨x0,x1⟩ ⟨y0,y1⟩ _ e
theorem da0 {n:Nat}{x:Int}(h0:0<=x)(h1:x < n):nx (L2.n6 0 n) x=x:=by
 unfold nx L2.n6;rw[ds7,ds9,dw9 (by omega)];show (0:Int)+((x.toNat:Nat):Int)=x;omega
end Mth
namespace L2
open PySem PySem.Spec PyProof.Rows
section
variable {X:Cx} {o e:Expr} {to:TE} {t:TA} {apos pos p:Pos}
theorem ck7 (ho:PE X o to)(ha:PA X [e] t)
   (hbase:attributeBase o "extend" X.env (eval o X.env)=eval o X.env:=by rfl)
   (hfew:((backTo pos (starEach [e] X.env)).all (fun x=> !x.1)&&(backToKw pos (keywordEach [] X.env)).all (fun x=>x.1.isSome)
     &&decide ([e].length+([]:List Keyword).length+(if ([]:List Keyword).isEmpty then 0 else 1) < 30))=true:=by rfl)
   (hline:(apos.endLine==pos.line)=true:=by rfl) (hs:starEach [e] X.env=(false,eval e X.env)::starEach [] X.env:=by rfl) (hplain:(backTo pos (starEach [] X.env)).any (·.1)=false:=by rfl):
   PE X (.Call (.Attribute o "extend" apos) [e] [] pos) (tBM X.K "list" by6 to t):=
 bl8 PySem.F.plainAttrs_list PySem.F.slot_list_extend PySem.F.type_list_extend ci5 ho ha hbase hfew hline hs hplain
end
theorem av3 (xs:List V)(k:Nat)(h:k<=xs.length):Y7 xs (some (k:Int)) none=xs.drop k:=by
 unfold Y7;rw[HT.dq7,HT.dp7,el5 h,eb4 (by rw[dx1];omega)]
theorem ck8 (xs:List V)(k:Nat)(h:k<=xs.length):Y7 xs none (some (k:Int))=xs.take k:=by
 unfold Y7;rw[HT.dq7,HT.dp7,el5 h,eo3,Nat.sub_zero]
def U4 (H:Hp)(e:Addr):List Int:=match H e with
 |some (.lst xs)=>xs.map cx0
 |_=>[]
theorem av4 {H:Hp}{e:Addr}{r:List Int}(h:H e=some (.lst (r.map V.int))):U4 H e=r:=by
 unfold U4;rw[h];show (r.map V.int).map cx0=r;rw[dw5]
 conv=>rhs;rw[<-ek3 r]
 rfl
theorem cd9 {H:Hp}{as:List Addr}{rs:List (List Int)}(h:m9 H as rs):as.map (U4 H)=rs:=by
 refine dx9 fun j=> ?_
 rw[ds9]
 by_cases hj:j < as.length
 · have e1:as[j]? =some as[j]:=ds2 hj;have e2:rs[j]? =some (rs[j]'(by rw[<-h.1];exact hj)):=ds2 _;rw[e1,e2];show some (U4 H as[j])=_;rw[av4 (h.2 j _ _ e1 e2)]
 · rw[dt5 (by omega),dt5 (by rw[<-h.1];omega)];rfl
end L2
namespace Mth
theorem ai3 {p:List Int}{rs:List (List Int)}(t:o6 p)(h:y8 p p.length rs):rs.flatten.Perm (L2.n6 0 p.length):=by
 have i1:o6 rs.flatten:=by
   have hin:∀x∈rs.flatten,In p x:=fun x hx=>by
     obtain ⟨r,hr,hxr⟩:=du6.mp hx;obtain ⟨y,L,a,b,rfl,_⟩:=h.ring r hr;exact W4 t a x hxr
   have l1:=J2 h.nd hin
   have l2:p.length<=rs.flatten.length:=by
     have:=J2 (p:=rs.flatten) (r:=L2.n6 0 p.length) (K6 _) fun x hx=>by
       have hx':=A4.mp hx;obtain ⟨r,hr,hxr⟩:=du6.mp (h.all x hx'.1 hx'.2);refine ⟨hx'.1,?_⟩
       exact Classical.byContradiction fun hn=>by
         have hle:(rs.flatten.length:Int)<=x:=by omega
         have hlt:=J2 h.nd hin
         have q:(L2.n6 0 (x.toNat+1)).length<=rs.flatten.length:=by
           have sub:∀z∈L2.n6 0 (x.toNat+1),z∈rs.flatten:=fun z hz=>by
             have hz':=A4.mp hz;exact h.all z hz'.1 (by have:=hx'.2;omega)
           have:∀(l m:List Int),l.Nodup->(∀z∈l,z∈m)->l.length<=m.length:=by
             intro l
             induction l with
             |nil=>intro m _ _;exact du3 _
             |cons c l ih=>
              intro m nd hs;obtain ⟨n1,n2⟩:=dw4.mp nd;obtain ⟨s,u,rfl⟩:=em3 (hs c ds5)
              have:=ih (s++u) n2 fun z hz=>by
                have hzm:=hs z (ds6 _ hz)
                rcases dt4.mp hzm with g|g
                · exact dy4 _ g
                · rcases dt7.mp g with g|g
                  · subst g;exact absurd hz n1
                  · exact dv5 _ g
              rw[ds8] at this;rw[ds8,dv9,dv9];omega
           exact this _ _ (K6 _) sub
         rw[t8] at q;have:=hx'.1;omega
     rw[t8] at this;exact this
   exact ⟨h.nd,fun x hx=>(hin x hx).1,fun x hx=>by have:=(hin x hx).2;omega⟩
 have hl:rs.flatten.length=p.length:=by
   have l1:=J2 h.nd fun x hx=>by
     obtain ⟨r,hr,hxr⟩:=du6.mp hx;obtain ⟨y,L,a,b,rfl,_⟩:=h.ring r hr;exact W4 t a x hxr
   have l2:p.length<=rs.flatten.length:=by
     have:=J2 (p:=rs.flatten) (r:=L2.n6 0 p.length) (K6 _) fun x hx=>by
       have hx':=A4.mp hx;have hm:=h.all x hx'.1 hx'.2;exact ⟨hx'.1,i1.hi x hm⟩
     rw[t8] at this;exact this
   omega
 have:=i1.perm;rw[hl] at this;exact this
end Mth
namespace L2
open PySem PySem.Spec PyProof.Rows
theorem ac9:bootBuiltins "sorted"=some (.builtin "sorted"):=by decide+kernel
section
variable {X:Cx}
theorem bw5 {pins:List (Addr×Obj)}{σ:St}{H:Hp}{s:Shared}(I:g9 X pins σ H s){vs:List Value}{out:Array Value}{ms:List Int}(h:IntsAre out.toList ms)(hl:ms.length<=sizeLine):
   g9 X pins σ (c9 H (s.heap.objs.size+1) (.lst (ms.map V.int))) {s with heap:=sortedAll s.heap vs out,toks:=s.toks}:=by
 obtain ⟨e,he⟩:=sortedAll_at s.heap vs out;refine I.laid (t':=s.toks) (fun _ _ q=>sortedAll_old q) (ei7 _) (show q9 X.prog X.w _ _ _ (.lst (ms.map V.int)) from ⟨by rw[ds1];exact hl,out.toList,e,ae8 h,he⟩)
variable {e:Expr} {t:TA} {p pos kpos:Pos}
end
end L2
namespace Mth
theorem at8:∀{a b:List Int},a.Perm b->a.Pairwise (· ≥ ·)->b.Pairwise (· ≥ ·)->a=b
 |[],b,h,_,_=>by rw[List.nil_perm.mp h]
 |x::a,[],h,_,_=>by exact absurd h.length_eq (by simp)
 |x::a,y::b,h,ha,hb=>by
  obtain ⟨a1,a2⟩:=em4.mp ha;obtain ⟨b1,b2⟩:=em4.mp hb
  have hxy:x=y:=by
    have h1:x∈y::b:=h.mem_iff.mp ds5;have h2:y∈x::a:=h.mem_iff.mpr ds5
    have l1:y≥x:=by
      rcases dt7.mp h1 with e|e
      · exact Int.le_of_eq e
      · exact b1 x e
    have l2:x≥y:=by
      rcases dt7.mp h2 with e|e
      · exact Int.le_of_eq e
      · exact a1 y e
    omega
  subst hxy;rw[at8 ((List.perm_cons x).mp h) a2 b2]
end Mth
namespace L2
open PySem PySem.Spec PyProof.Rows
def ai4:List Expr->Option (List Int)
 |[]=>some []
 | .Constant (.int i) _ _::es=>(ai4 es).map (i:: ·)
 |_::_=>none
def dl6 (ns:List Int):TA:=fun _ H Q=>Q (ns.map V.int) H
def cx1 (ns:List Int):TE:=fun _ H Q=>ns.length<=sizeLine/\∀p,H p=none->Q (.ref p) (c9 H p (.lst (ns.map V.int)))
theorem bo8 (i:Int)(j:Nat)(p:Pos)(es:List Expr)(env:Env):starEach (.Constant (.int i) j p::es) env=(false,eval (.Constant (.int i) j p) env)::starEach es env:=rfl
theorem bo9 {X:Cx}:∀(es:List Expr) (ns:List Int),ai4 es=some ns->PA X es (dl6 ns)
 |[],ns,h=>by
  have:ns=[]:=(Option.some.inj h).symm;subst this
  exact fun pos pins s σ H Q I h=>c6 pos pins s σ H Q I h
 |e::es,ns,h=>by
  unfold ai4 at h
  split at h
  · rename_i h0;cases h0
  · rename_i i j p es' heq;cases heq
    cases ho:ai4 es with
    |none=>rw[ho] at h;cases h
    |some ms=>
     rw[ho] at h;cases h
     exact fun pos pins s σ H Q I h=>(c5 (te:=tC (.int i)) g7 (bo9 es ms ho) (bo8 i j p es X.env)) pos pins s σ H Q I h
  · cases h
theorem bp0 {X:Cx}{pos:Pos}{es:List Expr}(ns:List Int)(h:ai4 es=some ns):PE X (.List es pos) (cx1 ns):=fun pins s σ H Q I h'=>p8 (bo9 es ns h) pins s σ H Q I (by
 show (ns.map V.int).length<=sizeLine/\_
 rw[ds1];exact h')
end L2
namespace L2
open PySem PySem.Spec PyProof.Rows
theorem ck9 {H:Hp}{a:Addr}{as:List Addr}{r:List Int}{rs:List (List Int)}(h:H a=some (.lst (r.map V.int)))(hr:m9 H as rs):m9 H (a::as) (r::rs):=by
 refine ⟨by rw[dv9,dv9,hr.1],fun j b q h1 h2=> ?_⟩
 cases j with
 |zero=>
  rw[en5] at h1 h2;cases h1;cases h2;exact h
 |succ j=>
  rw[ej2] at h1 h2;exact hr.2 j b q h1 h2
theorem bp1 {H:Hp}:∀{as bs:List Addr} {rs qs:List (List Int)},m9 H as rs->m9 H bs qs->m9 H (as++bs) (rs++qs)
 |[],bs,[],qs,_,h=>h
 |[],bs,r::rs,qs,h,_=>by have:=h.1;simp at this
 |a::as,bs,[],qs,h,_=>by have:=h.1;simp at this
 |a::as,bs,r::rs,qs,h,h'=>ck9 (h.2 0 a r rfl rfl) (bp1 ⟨by have:=h.1;simpa using this,fun j b q h1 h2=>h.2 (j+1) b q h1 h2⟩ h')
end L2
namespace L2
open PySem PySem.Spec PyProof.Rows
section
variable {X:Cx}
theorem bp2 {P:Program}{w:World}{k:o3}{u:Value}(h:(y6 P w).is k u=true):p5 (kV k) u:=by
 cases k with
 |inl i=>
  cases u with
  |int j t=>
   have:i=j:=by
     have h2:=KeyKind.is_eq_decide (knd:=y6 P w) (as7 P w j t) (Sum.inl i);rw[h] at h2;have:=of_decide_eq_true h2.symm;exact Sum.inl.inj this
   subst this;exact ⟨t,rfl⟩
  |_=>cases h
 |inr x=>
  cases u with
  |str y t=>
   have:x=y:=by
     have h2:=KeyKind.is_eq_decide (knd:=y6 P w) (as8 P w y t) (Sum.inr x);rw[h] at h2;have:=of_decide_eq_true h2.symm;exact Sum.inr.inj this
   subst this;exact ⟨t,rfl⟩
  |_=>cases h
theorem g9.freeze {pins:List (Addr×Obj)}{σ:St}{H:Hp}{s:Shared}{a:Addr}{kvs:List (o3×V)}{o:Obj}(I:g9 X pins σ H s)(e:H a=some (.dK kvs))(ho:s.heap.get? a=some o):g9 X pins σ (c9 H a (.frz o (.dK kvs))) s:=by
 have ok:q9 X.prog X.w H s.heap a (.dK kvs):=I.hok a _ e;exact aq6 (h':=s.heap) (t':=s.toks) I (by rw[e];exact True.intro) ⟨rfl,fun b _=>rfl⟩ ⟨o,ho⟩ ⟨ho,ok⟩
def Itd (d:Addr)(o:Obj)(kvs:List (o3×V)):It:=
 ⟨fun i H=>H d=some (.frz o (.dK kvs))/\i < kvs.length,fun i H x H'=>H'=H/\∃k v,kvs[i]? =some (k,v)/\x=kV k,fun i H=>H d=some (.frz o (.dK kvs))/\kvs.length<=i⟩
theorem cx2 {P:Program}{w:World}{H:Hp}{h:Heap}{d:Addr}{o:Obj}{kvs:List (o3×V)}(x:q9 P w H h d (.frz o (.dK kvs))){es:Array DictEntry}{ep:Nat}(hd:o.data= .dict es ep):∃vs,KV kvs vs/\h.DictAt (y6 P w) d vs ep:=by
 obtain ⟨ho,_,_,vs,rel,o',es',ep',ho',hc,hd',r⟩:=x;rw[ho] at ho';cases ho';rw[hd] at hd';cases hd';exact ⟨vs,rel,o,es,ho,hc,hd,r⟩
theorem ba1 {α β:Type}{R:α->β->Prop}{xs:List α}{ys:List β}(h:Paired R xs ys):∀{i:Nat} {x:α},xs[i]? =some x->∃y,ys[i]? =some y/\R x y:=by
 induction h with
 |nil=>intro i x e;simp at e
 |cons r _ ih=>
  intro i x e
  cases i with
  |zero=>rw[en5] at e;cases e;exact ⟨_,rfl,r⟩
  |succ i=>rw[ej2] at e;exact ih e
theorem ao0 {P:Program}{w:World}{K:PySem.W.Frag}{tg:Expr}(d it:Addr)(o:Obj)(kvs:List (o3×V))(es:Array DictEntry)(ep:Nat)(hdat:o.data= .dict es ep):bd1 P w K tg (Itd d o kvs) [it] it (fun i h=>h.IsKeyIter it d i kvs.length ep) where
 mem:=by simp
 obj:=fun i h st b hb=>by
   have e:b=it:=by simpa using hb
   subst e;obtain ⟨o,e,c,d⟩:=st;exact ⟨o,e,fun v z=>by rw[d] at z;cases z⟩
 keep:=fun i h h' st k=>by
   obtain ⟨o,e,r⟩:=st;exact ⟨o,k it (by simp) o e,r⟩
 item:=by
   intro X hP hw hK hc i pins s σ H E I hf st hg;subst hP hw hK;obtain ⟨hH,hi⟩:=hg;obtain ⟨vs,rel,hat⟩:=cx2 (I.hok d _ hH) hdat;have hl:kvs.length=vs.length:=rel.length;obtain ⟨f0,f1,f2,f3,f4,f5⟩:=hf it (by simp);have e1:kvs[i]? =some (kvs[i].1,kvs[i].2):=ds2 hi;generalize kvs[i].1=k at e1;generalize kvs[i].2=v at e1;obtain ⟨⟨k',u⟩,e2,e3,_⟩:=ba1 rel e1;have e3:k=k':=e3;subst e3;rw[hl] at st
   refine wpAny_pyNext_dict_item st hat e2 fun key h' hk st' sb=> ?_
   have I1:g9 X pins σ H {s with heap:=h'}:=I.turned (t':=s.toks) (fun b o hb e=>(sb.2 b hb).trans e) f0 f1 f3 f4 f5;obtain ⟨o,e,c,dd⟩:=id st';exact ⟨key,rfl,bl5 (s:={s with heap:=h'}) e c dd (by decide) ⟨kV k,H,I1,bp2 hk,⟨rfl,k,v,e1,rfl⟩,by rw[hl];exact st',fun b hb=>(hf b hb).1⟩⟩
 done:=by
   intro X hP hw hK hc i pins s σ H E I hf st hg;subst hP hw hK;obtain ⟨hH,hi⟩:=hg;obtain ⟨vs,rel,hat⟩:=cx2 (I.hok d _ hH) hdat;have hl:kvs.length=vs.length:=rel.length;obtain ⟨f0,f1,f2,f3,f4,f5⟩:=hf it (by simp);rw[hl] at st
   exact wpAny_pyNext_dict_end (I.ok.hd hc) st hat (dt5 (by omega)) fun h' eb=>⟨rfl,I.turned (t':=s.toks) (fun b o hb e=>eb b o hb e) f0 f1 f3 f4 f5⟩
 self:=fun _ _ _ _ _ st h=>wpAny_pyIter_keyiter st h
def dl7 (td:TE):TI:=fun σ H R=>td σ H fun x H1=>∃d kvs,x= .ref d/\H1 d=some (.dK kvs)/\∀o,R (Itd d o kvs) (c9 H1 d (.frz o (.dK kvs)))
theorem bd6 {tg l:Expr}{tl:TE}(hl:PE X l tl):PI X tg l (dl7 tl):=by
 intro pins s σ H R I h
 refine p6 (hl pins s σ H _ I h) fun v s1 ⟨x,H1,I1,r1,q1⟩=> ?_
 obtain ⟨d,kvs,e,hH,q⟩:=q1;subst e;cases r1;obtain ⟨_,hsm,vs,rel,o,es,ep,ho,hc,hdat,rr⟩:=(show q9 X.prog X.w H1 s1.heap d (.dK kvs) from I1.hok d _ hH);have hat:s1.heap.DictAt (y6 X.prog X.w) d vs ep:=⟨o,es,ho,hc,hdat,rr⟩;have I2:=I1.freeze hH ho;refine wpAny_pyIter_dict hsm hat ?_;have hlen:kvs.length=vs.length:=rel.length;refine ⟨s1.heap.objs.size,[s1.heap.objs.size],_,_,_,rfl,I2.kept (t':=s1.toks) fun b o e=>Heap.get?_push_of_some _ e,ao0 d _ o kvs es ep hdat,⟨_,Heap.get?_push_size _ rfl,rfl,by rw[hlen];rfl⟩,fun b hb=> ?_,q o⟩
 have e:b=s1.heap.objs.size:=by simpa using hb
 subst e;exact I2.fpOk (ds4 _) (I2.hok.fresh (ds4 _))
theorem ak1 {d:Addr}{o:Obj}{kvs:List (o3×V)}{g:TG}{tb:TS}{D:ab9}{σ:St}{H:Hp}(Pv:Nat->St->Hp->Prop)(h0:Pv 0 σ H)(hl:∀i σ H,i<=kvs.length->Pv i σ H->H d=some (.frz o (.dK kvs)))
   (hs:∀i k v σ H,kvs[i]? =some (k,v)->Pv i σ H->g (kV k) σ H fun σ2 H2=>tb {D with nx:=Pv (i+1),ct:=Pv (i+1),bk:=D.nx} σ2 H2) (hd:∀σ H,Pv kvs.length σ H->D.nx σ H):
   ∃W:Nat->Nat->St->Hp->Prop,(∃m,W 0 m σ H)/\∀i m σ H,W i m σ H->
    ((Itd d o kvs).stop i H/\D.nx σ H)\/((Itd d o kvs).go i H/\∃N:St->Hp->Prop,(∀σ' H',N σ' H'->∃m',m' < m/\W (i+1) m' σ' H')/\∀x H',(Itd d o kvs).yld i H x H'->g x σ H' fun σ2 H2=>tb {D with nx:=N,ct:=N,bk:=D.nx} σ2 H2):=by
 refine ⟨fun i m σ H=>m=kvs.length - i/\i<=kvs.length/\Pv i σ H,⟨kvs.length,by simp,du3 _,h0⟩,?_⟩;rintro i m σ H ⟨rfl,hi,p⟩;have q:=hl i σ H hi p
 by_cases hlt:i < kvs.length
 · refine .inr ⟨⟨q,hlt⟩,Pv (i+1),fun σ' H' p'=>⟨kvs.length - (i+1),by omega,rfl,hlt,p'⟩,fun x H' y=> ?_⟩;obtain ⟨e,k,v,y1,y2⟩:=y;subst e y2;exact hs i k v σ _ y1 p
 · have e:i=kvs.length:=by omega
   subst e;exact .inl ⟨⟨q,ds4 _⟩,hd σ H p⟩
theorem ag2 {prog:Program}{w:World}{κ:Type}[DecidableEq κ](knd:KeyKind prog w κ){k:κ}{key:Value}(d:Addr)(hkey:knd.is k key=true)(hd:(d==sysModules)=false)(dflt:Value):
   MeetsIn prog w (Builtin.«dict.setdefault» ⟨[.ref d,key,dflt],[]⟩) (fun _ R s=>∃kvs,s.heap.DictOf knd d kvs/\kvs.length<=sizeLine/\
     (∀v,valueAt kvs k=some v->R (.ok (.ret v)) {s with toks:=s.toks+1})/\
     (valueAt kvs k=none->∀h',h'.DictOf knd d (kvs++[(k,dflt)])->Heap.SameBut d s.heap h'->R (.ok (.ret dflt)) {s with heap:=h',toks:=s.toks+1})):=
 .of_wp fun A R s ⟨kvs,hm,hz,h1,h2⟩=>by
   unfold Builtin.«dict.setdefault»;refine wpAny_bind ?_;unfold Builtin.Dict.keyAndDefault;refine wpAny_bind (wpAny_notOrdered_dict hm.typeIs ?_);show wpAny _ _ (pure (d,key,some dflt)) _ _ s;refine wpAny_pure ?_;show wpAny _ _ (if (d==sysModules)=true then _ else (dictSetDefault d key dflt >>=_)) _ _ s;rw[if_neg (by rw[hd];exact dv3)];obtain ⟨o,es,ep,ho,hc,hdat,hk,hp,hn⟩:=id hm
   have hes:es.size<=sizeLine:=by
     have e1:=hp.length
     have e2:es.toList.length=es.size:=by simp
     omega
   have hf:=hm.mapOf;refine wpAny_bind ?_;unfold dictSetDefault
   try with_reducible refine wpAny_holding ?_
   refine wpAny_bind (knd.pyHash hkey ?_);refine wpAny_bind (wpAny_dictFind_of (s:={s with toks:=s.toks+1}) hkey ho hdat hk ?_)
   have hidx:(es.findIdx? fun e=>knd.is k e.key)=kvs.findIdx? fun kv=>decide (kv.1=k):=by
     rw[<-hp.findIdx k];obtain ⟨l⟩:=es;simp
   have hfb:findBy knd.is es k=valueAt kvs k:=by
     rw[<-hp.find k];obtain ⟨l⟩:=es;simp [findBy]
   rw[findBy_of_findIdx?] at hfb
   cases hi:es.findIdx? fun e=>knd.is k e.key with
   |some i=>
    refine wpAny_bind (wpAny_dictEntries (s:={s with toks:=s.toks+1}) ho hdat ?_)
    cases he:es[i]? with
    |none=>
     exfalso;have:=Array.findIdx?_eq_some_iff_findIdx_eq.mp hi;have hlt:i < es.size:=this.1;rw[ef4 hlt] at he
     exact nomatch he
    |some e=>
     refine wpAny_bind (wpAny_rule (wpAny_pure (wpAny_pure ⟨e.val,rfl,h1 e.val ?_⟩)));rw[hi] at hfb;rw[<-hfb];show Option.map _ es[i]? =_;rw[he];rfl
   |none=>
    have hnot:k∉kvs.map (·.1):=not_mem_of_findIdx_none (hidx▸hi)
    have hnone:valueAt kvs k=none:=by rw[hi] at hfb;exact hfb.symm
    refine wpAny_bind (wpAny_rule (wpAny_bind (wpAny_updateDictKeys (hz:=hes) (s:={s with toks:=s.toks+1}) ho hdat (wpAny_pure (wpAny_pure ⟨dflt,rfl,h2 hnone _ ⟨_,_,ep+1,Heap.get?_update_self _ ho (Obj.isFreed_of_dict (Obj.data_mapDictKeys hdat _)),
      hc.mapDictKeys _,Obj.data_mapDictKeys hdat _,hk.push hkey _,?_,?_⟩ (Heap.SameBut.update ..)⟩)))))
    · have:=hp.append hkey (knd.hash k) dflt;obtain ⟨l⟩:=es
      simpa using this
    · rw[dt1,dy3];refine ⟨hn,by simp,?_⟩;intro a ha b hb;simp only[du9,ee7,dt3] at hb;subst hb
      exact fun e=>hnot (e▸ha)
def by8:V->List V->Hp->VK->Prop:=fun x vs H Q=>∃(d:Addr) (kvs:List (o3×V)) (k:o3) (y:V),x= .ref d/\vs=[kV k,y]/\H d=some (.dK kvs)/\kvs.length < sizeLine/\
 (∀v,A7 kvs k=some v->Q v H)/\(A7 kvs k=none->Q y (c9 H d (.dK (kvs++[(k,y)]))))
theorem cl0:MtM X "dict.setdefault" by8:=by
 intro pins s σ H x vs v us Q I rx rv h;obtain ⟨d,kvs,k,y,rfl,rfl,hH,hlen,q1,q2⟩:=h;cases rx
 cases rv with
 |cons rk rr=>
  cases rr with
  |cons ry rn=>
   cases rn;obtain ⟨z,hd,ws,rel,dd⟩:=cw9 I.hok hH
   refine call_meetsIn PySem.F.slot_dict_setdefault dd.typeIs PySem.F.entry_dict_setdefault (PySem.F.args_dict_setdefault_3 _ _ _) (ag2 (y6 X.prog X.w) d (aq5 rk) hd _)
     ⟨ws,dd,by rw[<-rel.length];exact z,fun u hu=> ?_,fun hn h' dd' hs=> ?_⟩
   · have:=rel.val k;rw[hu] at this
     cases hv:A7 kvs k with
     |none=>rw[hv] at this;cases this
     |some v=>
      rw[hv] at this;exact ⟨v,H,I.tok _,this,q1 v hv⟩
   · have hvn:A7 kvs k=none:=by
       have:=rel.val k;rw[hn] at this
       cases hv:A7 kvs k with
       |none=>rfl
       |some v=>rw[hv] at this;cases this
     have he:∃q,h'.get? d=some q:=let ⟨q,_,_,hq,_⟩:=dd';⟨q,hq⟩;have rel':=rel.put k ry
     have hany:¬(ws.any fun kv=>decide (kv.1=k))=true:=by
       rw[ei2];rintro ⟨kv,hkv,hek⟩;unfold valueAt at hn
       cases hf:ws.find? (fun kv=>decide (kv.1=k)) with
       |none=>exact List.find?_eq_none.mp hf kv hkv hek
       |some y=>rw[hf] at hn;cases hn
     rw[au9 y hvn,stored,if_neg hany] at rel';exact ⟨y,_,aq6 I (by rw[hH];exact True.intro) hs he (ci8 (by rw[ds8];exact hlen) hd rel' dd'),ry,q2 hvn⟩
theorem cl1 {o e f:Expr}{to:TE}{t:TA}{apos pos:Pos}(ho:PE X o to)(ha:PA X [e,f] t)
   (hbase:attributeBase o "setdefault" X.env (eval o X.env)=eval o X.env:=by rfl)
   (hfew:((backTo pos (starEach [e,f] X.env)).all (fun x=> !x.1)&&(backToKw pos (keywordEach [] X.env)).all (fun x=>x.1.isSome)
     &&decide ([e,f].length+([]:List Keyword).length+(if ([]:List Keyword).isEmpty then 0 else 1) < 30))=true:=by rfl)
   (hline:(apos.endLine==pos.line)=true:=by rfl) (hs:starEach [e,f] X.env=(false,eval e X.env)::starEach [f] X.env:=by rfl) (hplain:(backTo pos (starEach [f] X.env)).any (·.1)=false:=by rfl):
   PE X (.Call (.Attribute o "setdefault" apos) [e,f] [] pos) (tBM X.K "dict" by8 to t):=
 bl8 PySem.F.plainAttrs_dict PySem.F.slot_dict_setdefault PySem.F.type_dict_setdefault cl0 ho ha hbase hfew hline hs hplain
theorem cl2:bootBuiltins "int"=some (.type "int"):=by decide+kernel
theorem cl3:K9 X (.type "int") (fun xs H Q=>∃b,xs=[.bl b]/\Q (.int (if b then 1 else 0)) H):=by
 intro pins s σ H xs us Q I r h;obtain ⟨b,rfl,q⟩:=h;obtain ⟨u,rfl,rx⟩:=Q2 r;cases rx;exact call_int_bool ⟨.int _,H,I.tok _,⟨_,rfl⟩,q⟩
theorem by9 {e:Expr}{t:TA}{p pos:Pos}(hm:X.mg "int"=none)(ha:PA X [e] t)(hg:Gl X "int":=by rfl)(he:starEach [e] X.env=(false,eval e X.env)::starEach [] X.env:=by rfl):
   PE X (.Call (.Name "int" p) [e] [] pos) (X8 (fun xs H Q=>∃b,xs=[.bl b]/\Q (.int (if b then 1 else 0)) H) t):=
 M4 cl3 hg hm cl2 ha (by decide) (by decide) he rfl
end
theorem da1 (xs:List V)(k j:Nat)(h:k<=xs.length):Y7 xs (some (k:Int)) (some (j:Int))=(xs.drop k).take (min j xs.length - k):=by
 unfold Y7;rw[HT.dq7,HT.dq7,el5 h]
end L2
namespace Mth
def J3 (l:Nat):Nat->Nat
 |0=>1
 |c+1=>J3 l c*l*(c+1)
def j8 (f:Nat->Nat):List Nat->Nat
 |[]=>1
 |x::xs=>f x*j8 f xs
theorem ao1 (f:Nat->Nat):∀xs ys,j8 f (xs++ys)=j8 f xs*j8 f ys
 |[],ys=>by rw[List.nil_append];exact (eo1 _).symm
 |x::xs,ys=>by
  show f x*j8 f (xs++ys)=f x*j8 f xs*j8 f ys;rw[ao1 f xs ys,dx3]
theorem ak2 (f:Nat->Nat)(xs:List Nat)(x:Nat):j8 f (xs++[x])=j8 f xs*f x:=by
 rw[ao1];show j8 f xs*(f x*1)=_;rw[ed6]
theorem ce0 {f:Nat->Nat}{xs ys:List Nat}(h:xs.Perm ys):j8 f xs=j8 f ys:=by
 induction h with
 |nil=>rfl
 |cons x _ ih=>show f x*j8 f _=f x*j8 f _;rw[ih]
 |swap x y l=>show f y*(f x*j8 f l)=f x*(f y*j8 f l);rw[<-dx3,dy8 (f y),dx3]
 |trans _ _ i1 i2=>rw[i1,i2]
theorem U5 {f:Nat->Nat}:∀{us:List Nat},(∀u∈us,f u=1)->j8 f us=1
 |[],_=>rfl
 |u::us,h=>by
  show f u*j8 f us=1;rw[h u ds5,U5 fun x hx=>h x (ds6 _ hx)]
theorem af0 {f:Nat->Nat}:∀{ks us:List Nat},ks.Nodup->us.Nodup->(∀k∈ks,k∈us)->(∀u∈us,u∉ks->f u=1)->j8 f ks=j8 f us
 |[],us,_,_,_,h=>(U5 fun u hu=>h u hu (by simp)).symm
 |k::ks,us,nk,nu,sub,h=>by
  obtain ⟨nk1,nk2⟩:=dw4.mp nk;have hk:k∈us:=sub k ds5;rw[ce0 (List.perm_cons_erase hk)];show f k*j8 f ks=f k*j8 f (us.erase k)
  have ih:j8 f ks=j8 f (us.erase k):=by
    refine af0 nk2 (nu.erase k) (fun x hx=> ?_) fun u hu hn=> ?_
    · have hxk:x≠k:=fun e=>nk1 (by rw[<-e];exact hx)
      exact (List.mem_erase_of_ne hxk).mpr (sub x (ds6 _ hx))
    · obtain ⟨h1,h2⟩:=(List.Nodup.mem_erase_iff nu).mp hu
      refine h u h2 fun z=> ?_
      rcases dt7.mp z with e|e
      · exact h1 e
      · exact hn e
  rw[ih]
def l7 (rs:List (List Int))(l:Nat):Nat:=rs.countP fun r=>decide (r.length=l)
theorem U6 {g:Int->Nat}{l:Nat}:∀{rs:List (List Int)},(∀r∈rs,∀x∈r,g x=r.length)->(rs.flatten.countP fun x=>decide (g x=l))=l*l7 rs l
 |[],_=>by simp [l7]
 |r::rs,h=>by
  have ih:=U6 (l:=l) (rs:=rs) fun q hq=>h q (ds6 _ hq)
  rw[dt9,ed1,ih];unfold l7;rw[ed0];have hr:=h r ds5
  by_cases e:r.length=l
  · have:(r.countP fun x=>decide (g x=l))=r.length:=List.countP_eq_length.mpr fun x hx=>by rw[hr x hx];exact decide_eq_true e
    rw[this,e];simp only[decide_true,if_true];rw[em6,ed6,ec4]
  · have:(r.countP fun x=>decide (g x=l))=0:=ea7.mpr fun x hx=>by rw[hr x hx];simpa using e
    rw[this];simp [e]
theorem bz0 {p:List Int}(t:o6 p){rs:List (List Int)}(up:y8 p p.length rs):∀r∈rs,∀x∈r,G0 p x=r.length:=by
 intro r hr x hx;obtain ⟨y,L,hy,pr,er,_⟩:=up.ring r hr;subst er;obtain ⟨j,hj,rfl⟩:=B9.mp hx;rw[n9];exact S6 (pr.shift t hy j)
theorem af1 {p:List Int}(t:o6 p){rs:List (List Int)}(up:y8 p p.length rs)(l:Nat):((((dv4 p.length).map fun (i:Nat)=>(G0 p (i:Int):Int))).countP fun i=>decide (i=(l:Int)))=l*l7 rs l:=by
 rw[<-U6 (bz0 t up)];rw[(ai3 t up).countP_eq,dz0];unfold L2.n6;rw[dz0]
 refine dz3 fun i hi=> ?_
 simp
 constructor<;>intro h<;>omega
theorem ar1 {rs:List (List Int)}{l:Nat}(h:l7 rs l≠0):∃r∈rs,r.length=l:=by
 unfold l7 at h;obtain ⟨r,hr,e⟩:=el9.mp (em5 h);exact ⟨r,hr,of_decide_eq_true e⟩
theorem cl4 {p:List Int}(t:o6 p){rs:List (List Int)}(up:y8 p p.length rs){ks:List Nat}(nk:ks.Nodup)(h1:∀k∈ks,∃r∈rs,r.length=k)(h2:∀r∈rs,r.length∈ks){g:Nat->Nat}(hg:∀l,g (l+1)=J3 (l+1) (l7 rs (l+1))):
   j8 (fun l=>J3 l (l7 rs l)) ks=j8 g ((dv4 p.length).map (· +1)):=by
 have e:j8 g ((dv4 p.length).map (· +1))=j8 (fun l=>J3 l (l7 rs l)) ((dv4 p.length).map (· +1)):=by
   induction dv4 p.length with
   |nil=>rfl
   |cons x xs ih=>
    show g (x+1)*j8 g (xs.map (· +1))=J3 (x+1) (l7 rs (x+1))*j8 _ (xs.map (· +1));rw[ih,hg]
 rw[e]
 refine af0 nk ?_ (fun k hk=> ?_) fun u hu hn=> ?_
 · exact List.Pairwise.map (fun x:Nat=>x+1) (fun a b h=>by omega) (eb2 (n:=p.length))
 · obtain ⟨r,hr,rfl⟩:=h1 k hk;obtain ⟨y,L,hy,pr,er,_⟩:=up.ring r hr
   have b:=I0 t hy (m:=L) fun i i0 i1=>pr.least i i0 i1
   have:=pr.pos;rw[er,n9];exact dt0.mpr ⟨L - 1,dv0.mpr (by omega),by omega⟩
 · have:l7 rs u=0:=by
     by_cases z:l7 rs u=0
     · exact z
     · obtain ⟨r,hr,rfl⟩:=ar1 z;exact absurd (h2 r hr) hn
   show J3 u (l7 rs u)=1;rw[this];rfl
end Mth
namespace Mth
structure M7 (l m d:Nat):Prop where
 parts:d∣m
 rest:du0 l (m/d)=1
 least:∀e,e∣m->du0 l (m/e)=1->d∣e
theorem M7.uniq {l m a b:Nat}(x:M7 l m a)(y:M7 l m b):a=b:=Nat.dvd_antisymm (x.least b y.parts y.rest) (y.least a x.parts x.rest)
theorem M7.pos {l m d:Nat}(x:M7 l m d)(hm:0 < m):0 < d:=by
 rcases eb1 d with z|z
 · have:=x.parts;rw[z] at this;have:=Nat.zero_dvd.mp this;omega
 · exact z
structure Y8 (l m d:Nat):Prop where
 pos:0 < d
 parts:d∣m
 least:∀e,e∣m->du0 l (m/e)=1->d∣e
theorem Y8.start (l m:Nat):Y8 l m 1:=⟨by decide,Nat.one_dvd m,fun e _ _=>Nat.one_dvd e⟩
theorem Y8.step {l m d:Nat}(hm:0 < m)(u:Y8 l m d):Y8 l m (d*du0 l (m/d)):=by
 obtain ⟨k,rfl⟩:=u.parts;have dp:=u.pos;rw[dy9 k dp]
 have kp:0 < k:=Nat.pos_of_mul_pos_left hm|>fun h=>by
   rcases eb1 k with z|z
   · rw[z,ee9] at hm;omega
   · exact z
 refine ⟨ea3 dp (ei8 _ kp),el0 d (ea2 l k),fun e he hr=> ?_⟩;obtain ⟨f,rfl⟩:=u.least e he hr;have hfk:f∣k:=eh6 dp he;obtain ⟨g,rfl⟩:=hfk
 have fp:0 < f:=by
   rcases eb1 f with z|z
   · rw[z,ed7] at kp;omega
   · exact z
 have e1:d*(f*g)/(d*f)=g:=by
   rw[<-dx3,dy9 g (ea3 dp fp)]
 rw[e1] at hr;refine el0 d ?_
 have c:ef8 (du0 l (f*g)) g:=by
   have:ef8 l g:=hr;exact ef8.coprime_dvd_left (ef9 l (f*g)) this
 exact c.dvd_of_dvd_mul_right (ea2 l (f*g))
theorem Y8.done {l m d:Nat}(u:Y8 l m d)(h:du0 l (m/d)=1):M7 l m d:=⟨u.parts,h,u.least⟩
theorem Y8.more {l m d:Nat}(hm:0 < m)(u:Y8 l m d)(h:du0 l (m/d)≠1):d < d*du0 l (m/d)/\d*du0 l (m/d)<=m:=by
 have kp:0 < m/d:=Nat.div_pos (ef5 hm u.parts) u.pos;have gp:0 < du0 l (m/d):=ei8 _ kp;have dp:=u.pos;refine ⟨?_,ef5 hm (u.step hm).parts⟩
 have:2<=du0 l (m/d):=by omega
 calc d < d*2:=by omega
   _<=d*du0 l (m/d):=em0 d this
def G6 (d l k lane step:Nat):Nat:=lane+d*((step*k)%l)
theorem bp4 {d l x lane:Nat}(hl:lane < d)(h:0 < l):(lane+d*x)%(d*l)=lane+d*(x%l):=by
 have e:lane+d*x=(lane+d*(x%l))+(d*l)*(x/l):=by
   have:=Nat.mod_add_div x l
   calc lane+d*x=lane+d*(x%l+l*(x/l)):=by rw[this]
     _=(lane+d*(x%l))+(d*l)*(x/l):=by rw[em6,<-dx3,ek5]
 rw[e,ei3];refine dy0 ?_;have hx:x%l+1<=l:=ea6 _ h
 calc lane+d*(x%l) < d+d*(x%l):=by omega
   _=d*(x%l+1):=by rw[em6,ed6,ec4]
   _<=d*l:=em0 d hx
theorem bd7 {d l k lane step:Nat}(hl:lane < d)(h:0 < l):(lane+step*(d*k))%(d*l)=G6 d l k lane step:=by
 have e:step*(d*k)=d*(step*k):=by rw[<-dx3,dy8 step d,dx3]
 rw[e,bp4 hl h];rfl
theorem ai5 {d l k lane step:Nat}(hl:lane < d)(h:0 < l):G6 d l k lane step < d*l:=by
 rw[<-bd7 (k:=k) hl h];exact ea6 _ (ea3 (by omega) h)
theorem cr4 {d l k a b x y:Nat}(ha:a < d)(hb:b < d)(hx:x < l)(hy:y < l)(c:du0 l k=1)(h:G6 d l k a x=G6 d l k b y):a=b/\x=y:=by
 unfold G6 at h
 have dp:0 < d:=by omega
 have h1:a=b:=by
   have e1:(a+d*((x*k)%l))%d=a:=by rw[ei3];exact dy0 ha
   have e2:(b+d*((y*k)%l))%d=b:=by rw[ei3];exact dy0 hb
   rw[<-e1,<-e2,h]
 subst h1;have h2:(x*k)%l=(y*k)%l:=eb7 dp (by omega);refine ⟨rfl,?_⟩
 have key:∀u v,u<=v->v < l->(u*k)%l=(v*k)%l->u=v:=fun u v huv hv e=>by
   have d1:l∣v*k - u*k:=eb5 (Nat.sub_mod_eq_zero_of_mod_eq e.symm);rw[<-Nat.sub_mul] at d1;have d2:l∣v - u:=ef8.dvd_of_dvd_mul_right c d1
   rcases eb1 (v - u) with z|z
   · omega
   · have:=ef5 z d2;omega
 rcases Nat.le_total x y with z|z
 · exact key x y z hy h2
 · exact (key y x z hx h2.symm).symm
theorem cl5 {d l k lane step:Nat}(hl:lane < d)(h:0 < l):(G6 d l k lane step+d*k)%(d*l)=G6 d l k lane ((step+1)%l):=by
 have e1:G6 d l k lane step+d*k=lane+d*((step*k)%l+k):=by
   unfold G6;rw[em6,ek5]
 rw[e1,bp4 hl h];unfold G6
 congr 2
 rw[en7,<-ed5,Nat.mul_mod ((step+1)%l),Nat.mod_mod,<-Nat.mul_mod]
end Mth
namespace Mth
theorem bw6 {r:List Int}(h1:∀x,In r x->In r (nx r x))(h2:∀x,In r x->∃L,0 < L/\it r L x=x):o6 r:=by
 refine bi5 (fun x a b=>h1 x ⟨a,b⟩) fun x y x0 x1 y0 y1 e=> ?_
 obtain ⟨L,L0,hL⟩:=h2 x ⟨x0,x1⟩;obtain ⟨M,M0,hM⟩:=h2 y ⟨y0,y1⟩;have a1:=an9 hL M;have a2:=an9 hM L;rw[dy8] at a2;have hp:0 < L*M:=ea3 L0 M0;obtain ⟨N,hN⟩:∃N,L*M=N+1:=⟨L*M - 1,by omega⟩;rw[hN,cz7] at a1 a2;rw[<-a1,<-a2,e]
structure G3 (r J:List Int):Prop where
 ne:J≠[]
 nd:J.Nodup
 lo:∀x∈J,0<=x
 on:∀j,j < J.length->A1 r (J.getD j 0)=some (J.getD ((j+1)%J.length) 0)
theorem G3.in_ {r J:List Int}(h:G3 r J){j:Nat}(hj:j < J.length):In r (J.getD j 0):=by
 have:=h.on j hj;unfold A1 at this;have h1:=(ds3.mp this).1;have h0:=h.lo (J.getD j 0) (by rw[N3 hj];exact dw2 hj);exact ⟨h0,by omega⟩
theorem G3.nx {r J:List Int}(h:G3 r J){j:Nat}(hj:j < J.length):nx r (J.getD j 0)=J.getD ((j+1)%J.length) 0:=by
 have e:=ai2 (h.in_ hj);rw[h.on j hj] at e;exact (Option.some.inj e).symm
theorem G3.it {r J:List Int}(h:G3 r J){j:Nat}(hj:j < J.length):∀i,it r i (J.getD j 0)=J.getD ((j+i)%J.length) 0
 |0=>by rw[ea9,dy0 hj];rfl
 |i+1=>by
  have hm:(j+i)%J.length < J.length:=ea6 _ (by omega);show Mth.nx r (Mth.it r i (J.getD j 0))=_;rw[h.it hj i,h.nx hm,en7,ek5]
theorem G3.per {r J:List Int}(h:G3 r J){j:Nat}(hj:j < J.length):D7 r (J.getD j 0) J.length:=by
 refine ⟨by omega,?_,fun i i0 i1 e=> ?_⟩
 · rw[h.it hj,Nat.add_mod_right,dy0 hj]
 · rw[h.it hj] at e;have hm:(j+i)%J.length < J.length:=ea6 _ (by omega)
   have hne:(j+i)%J.length≠j:=fun z=>by
     rcases ej3 (j+i) J.length with y|y
     · rw[dy0 y] at z;omega
     · have e2:(j+i)%J.length=j+i - J.length:=by
         rw[Nat.mod_eq_sub_mod y,dy0 (by omega)]
       omega
   exact aa5 h.nd hm hj hne e
def O4 (d l k:Nat):List Int:=(dv4 (d*l)).map fun i=>((G6 d l k (i/l) (i%l):Nat):Int)
theorem W5 (d l k:Nat):(O4 d l k).length=d*l:=by unfold O4;rw[ds1,dw1]
theorem ar2 {d l i:Nat}(h:i < d*l):i/l < d:=by
 refine Nat.div_lt_of_lt_mul ?_;rw[dy8];exact h
theorem ak3 {d l k:Nat}(hl:0 < l)(c:du0 l k=1):o6 (O4 d l k):=by
 refine ⟨?_,fun x hx=> ?_,fun x hx=> ?_⟩
 · unfold O4;rw[du4,eb6];refine List.Pairwise.imp_of_mem ?_ (du4.mp (eb2 (n:=d*l)));intro a b ha hb hne e;have ha:=dv0.mp ha;have hb:=dv0.mp hb
   have e':G6 d l k (a/l) (a%l)=G6 d l k (b/l) (b%l):=by omega
   obtain ⟨h1,h2⟩:=cr4 (ar2 ha) (ar2 hb) (ea6 _ hl) (ea6 _ hl) c e';exact hne (by rw[<-el4 a l,<-el4 b l,h1,h2])
 · obtain ⟨i,_,rfl⟩:=dt0.mp hx;omega
 · obtain ⟨i,hi,rfl⟩:=dt0.mp hx;rw[W5];have:=ai5 (k:=k) (step:=i%l) (ar2 (dv0.mp hi)) hl;omega
theorem ad0 {l:Nat}(hl:0 < l):∀{Rs:List (List Int)},(∀r∈Rs,r.length=l)->Rs.flatten.length=Rs.length*l/\∀a b,a < Rs.length->b < l->Rs.flatten[a*l+b]? =(Rs.getD a [])[b]?
 |[],_=>⟨by simp,fun a b h=>by simp at h⟩
 |r::Rs,h=>by
  have hr:=h r ds5
  obtain ⟨i1,i2⟩:=ad0 hl (Rs:=Rs) fun q hq=>h q (ds6 _ hq)
  refine ⟨by rw[dt9,ds8,i1,hr,dv9,ed5,ec4],fun a b ha hb=> ?_⟩;rw[dt9]
  cases a with
  |zero=>
   rw[ed7,ee8,dv8 (by omega)];rfl
  |succ a=>
   rw[ed5,dw7 (by omega),hr]
   have e:a*l+l+b - l=a*l+b:=by omega
   rw[e,i2 a b (by simp only[dv9] at ha;omega) hb];rfl
structure C5 (l k:Nat)(Rs:List (List Int))(J:List Int):Prop where
 len:J.length=Rs.length*l
 at_:(O4 Rs.length l k).map (A1 J)=Rs.flatten.map some
theorem C5.perm {l k:Nat}{Rs:List (List Int)}{J:List Int}(hl:0 < l)(c:du0 l k=1)(h:C5 l k Rs J):J.Perm Rs.flatten:=
 cd5 (ak3 hl c) (by rw[W5];exact h.len) h.at_
theorem C5.get {l k:Nat}{Rs:List (List Int)}{J:List Int}(hl:0 < l)(hr:∀r∈Rs,r.length=l)(h:C5 l k Rs J){a b:Nat}(ha:a < Rs.length)(hb:b < l):J.getD (G6 Rs.length l k a b) 0=(Rs.getD a []).getD b 0:=by
 have hi:a*l+b < Rs.length*l:=by
   calc a*l+b < a*l+l:=by omega
     _=(a+1)*l:=by rw[ed5]
     _<=Rs.length*l:=dz5 l ha
 have e:=congrArg (fun z:List (Option Int)=>z[a*l+b]?) h.at_;unfold O4 at e;rw[ds9,ds9,dw9 hi,ds9,(ad0 hl hr).2 a b ha hb] at e
 have d1:(a*l+b)/l=a:=by
   rw[dy8,en8 hl,en0 hb,ea9]
 have d2:(a*l+b)%l=b:=by
   rw[dy8,en9,dy0 hb]
 simp only[Option.map_some,d1,d2] at e
 have hra:(Rs.getD a []).length=l:=by
   refine hr _ ?_;rw[ds7,ds2 ha];exact dw2 ha
 rw[ds2 (by omega)] at e;have e:=Option.some.inj e;have hp:=ai5 (k:=k) (step:=b) ha hl;rw[<-h.len] at hp;unfold A1 at e;rw[dx5,ds2 hp] at e;rw[ds7,ds2 hp,ds7,ds2 (show b < (Rs.getD a []).length by omega)]
 simpa using e
def ba2 (p:List Int)(m:Nat)(J:List Int)(x:Int):Prop:=
 ∃(l k:Nat) (Rs:List (List Int)) (a b:Nat) (y:Int),0 < l/\m=Rs.length*k/\du0 l k=1/\(∀r∈Rs,r.length=l)/\C5 l k Rs J/\a < Rs.length/\b < l/\In p y/\D7 p y l/\Rs.getD a []=m7 p y l/\x=it p b y
theorem bz1 {p r:List Int}{m:Nat}{qs:List (List Int)}(tp:o6 p)(hlen:r.length=p.length)(hq:∀J∈qs,G3 r J)(hx:∀x,In p x->∃J∈qs,ba2 p m J x):o6 r/\B7 r (m:Int) p:=by
 have at_:∀x,In p x->∃J∈qs,∃j,j < J.length/\x=J.getD j 0/\J.getD ((j+m)%J.length) 0=nx p x:=fun x hxi=>by
   obtain ⟨J,hJ,l,k,Rs,a,b,y,l0,rfl,c,hr,hj,ha,hb,hy,py,er,rfl⟩:=hx x hxi;refine ⟨J,hJ,G6 Rs.length l k a b,by rw[hj.len];exact ai5 ha l0,?_,?_⟩
   · rw[hj.get l0 hr ha hb,er,aa6 hb]
   · rw[hj.len,cl5 ha l0,hj.get l0 hr ha (ea6 _ l0),er,aa6 (ea6 _ l0),U3 py.back];rfl
 have inr:∀x,In r x↔In p x:=fun x=>by unfold In;rw[hlen]
 have tr:o6 r:=by
   refine bw6 (fun x h=> ?_) fun x h=> ?_
   · obtain ⟨J,hJ,j,hj,rfl,_⟩:=at_ x ((inr x).mp h);rw[(hq J hJ).nx hj];exact (hq J hJ).in_ (ea6 _ (by omega))
   · obtain ⟨J,hJ,j,hj,rfl,_⟩:=at_ x ((inr x).mp h);have:=(hq J hJ).per hj;exact ⟨_,this.pos,this.back⟩
 refine ⟨tr,dg6 tr hlen.symm fun x h L hL=> ?_⟩;obtain ⟨J,hJ,j,hj,rfl,e⟩:=at_ x ((inr _).mp h);have hp:=(hq J hJ).per hj;have:L=J.length:=hL.uniq hp;subst this;exact ⟨m,by simp,by rw[(hq J hJ).it hj,e]⟩
end Mth
namespace L2
open PySem PySem.Spec PyProof.Rows
theorem ba3:∀{us:List Value} {ns:List Int},us.length=ns.length->(∀(j:Nat) i,ns[j]? =some i->∃t,us[j]? =some (.int i t))->IntsAre us ns
 |[],[],_,_=> .nil
 |[],_::_,h,_=>by simp at h
 |_::_,[],h,_=>by simp at h
 |u::us,n::ns,h,hj=>by
  obtain ⟨t,e⟩:=hj 0 n rfl;have e:u= .int n t:=Option.some.inj e;subst e;exact .cons n t (ba3 (by simpa using h) fun j i hi=>hj (j+1) i hi)
section
variable {prog:Program} {w:World} {A:Around} {E:Value->Shared->Prop} {s:Shared} {κ:Type} [DecidableEq κ] {knd:KeyKind prog w κ}
theorem bp5 {d:Addr}{kvs:List (κ×Value)}{ep:Nat}{Q:List Value->Shared->Prop}(hh:A.handled=none)(hd:(d==sysModules)=false)(hm:s.heap.DictAt knd d kvs ep)(hn:kvs.length<=sizeLine)
   (hQ:∀(h':Heap) (tk:Nat) (acc:Array Value),s.heap.objs.size<=h'.objs.size->(∀b o,s.heap.get? b=some o->h'.get? b=some o)->acc.size=kvs.length->(∀(j:Nat) v,acc[j]? =some v->∃k x,kvs[j]? =some (k,x)/\knd.is k v=true)->Q acc.toList {s with heap:=h',toks:=tk}):
   wpAny (model prog w) A (collect (.ref d)) Q E s:=by
 have hdS:s.heap.objs.size≠d:=fun e=>absurd (hm.lt_size) (by rw[e];exact ea8 _)
 unfold collect;refine wpAny_bind (wpAny_runValue (codeAny_builtin F.entry_proto_collect ?_));rw[Around.under_plainId F.plain_proto_collect _];show wpAny _ A.in1 (newList [] >>=fun l=>again (.builtin "list.__iadd__" ⟨[l,.ref d],[]⟩)) _ _ s;refine wpAny_bind (wpAny_newObj_type ?_);refine wpAny_pure ⟨plainId_quiet F.plain_list_iadd _,codeAny_builtin F.entry_list_iadd ?_⟩;rw[Around.under_plainId F.plain_list_iadd _];have hm₁:=hm.push {cls:= .type "list",data:= .seq ([]:List Value).toArray};have hS₁:(s.heap.push {cls:= .type "list",data:= .seq ([]:List Value).toArray}).get? s.heap.objs.size=some {cls:= .type "list",data:= .seq ([]:List Value).toArray}:=Heap.get?_push_size _ rfl
 have h1:Builtin.List.listSameRef (.ref s.heap.objs.size) (.ref d)=false:=by simp [Builtin.List.listSameRef,hdS]
 have hT:({s with heap:=s.heap.push {cls:= .type "list",data:= .seq ([]:List Value).toArray}}:Shared).TypeIs (.ref d) "dict":=hm₁.dictOf.typeIs;show wpAny _ A.in1 (Builtin.List.listExtendWith (.ref s.heap.objs.size) (.ref d) (.ref s.heap.objs.size)) _ _ _;unfold Builtin.List.listExtendWith;refine wpAny_bind (wpAny_typeOf hT ?_);rw[if_neg (by rw[h1];decide)];refine wpAny_bind (wpAny_pyIter_dict hd hm₁ ?_);generalize hh1:s.heap.push {cls:= .type "list",data:= .seq ([]:List Value).toArray}=H1 at hm₁ hS₁ hT ⊢
 have hsz1:H1.objs.size=s.heap.objs.size+1:=by rw[<-hh1,Heap.size_push]
 have hm₂:=hm₁.push {cls:= .type "dict_keyiterator",data:= .fields #[.ref d,.int 0 0,.int kvs.length 0,.int ep 0]};have hS₂:(H1.push {cls:= .type "dict_keyiterator",data:= .fields #[.ref d,.int 0 0,.int kvs.length 0,.int ep 0]}).get? s.heap.objs.size=some {cls:= .type "list",data:= .seq ([]:List Value).toArray}:=Heap.get?_push_of_some _ hS₁;have hit:(H1.push {cls:= .type "dict_keyiterator",data:= .fields #[.ref d,.int 0 0,.int kvs.length 0,.int ep 0]}).IsKeyIter H1.objs.size d 0 kvs.length ep:=⟨_,Heap.get?_push_size _ rfl,rfl,rfl⟩
 have old2:∀b o,s.heap.get? b=some o->(H1.push {cls:= .type "dict_keyiterator",data:= .fields #[.ref d,.int 0 0,.int kvs.length 0,.int ep 0]}).get? b=some o:=fun b o e=>Heap.get?_push_of_some _ (by rw[<-hh1];exact Heap.get?_push_of_some _ e)
 have hT₂:({s with heap:=H1.push {cls:= .type "dict_keyiterator",data:= .fields #[.ref d,.int 0 0,.int kvs.length 0,.int ep 0]}}:Shared).TypeIs (.ref d) "dict":=hm₂.dictOf.typeIs;generalize (H1.push {cls:= .type "dict_keyiterator",data:= .fields #[.ref d,.int 0 0,.int kvs.length 0,.int ep 0]})=H2 at hm₂ hS₂ hit old2 hT₂ ⊢
 have hIS:H1.objs.size≠s.heap.objs.size:=by omega
 have hdI:d≠H1.objs.size:=fun e=>absurd (hm₁.lt_size) (by rw[e];exact ea8 _)
 have W:=(Walks.dictKeys (prog:=prog) (w:=w) (A:=A.in1) (knd:=knd) hh H1.objs.size d hdI kvs ep).toS
 have hSf:s.heap.objs.size∉[H1.objs.size,d]:=by
   intro hb
   rcases dt7.mp hb with e|e
   · exact hIS e.symm
   · have:s.heap.objs.size=d:=by simpa using e
     exact hdS this
 refine wpAny_bind (wpAny_holding ?_);unfold Builtin.List.listLengthHint;refine wpAny_bind (wpAny_specialOf hT₂ PySem.F.slot_dict_len.lookup ?_)
 (generalize hid:("dict.__len__":String)=id0;(fail_if_success (clear hid id0));wp_delta;rw[show splitId id0=some ("dict","__len__") from by subst hid;decide+kernel];subst hid)
 refine wpAny_bind (wpAny_isInstance (b:=true) hT₂ (by rw[isSubtype_type];kernel_rfl) ?_);rw[if_neg (by decide)];show wpAny _ A.in1 (typeOf (.ref d) >>=_) _ _ _;refine wpAny_bind (wpAny_typeOf hT₂ ?_);refine wpAny_pure ?_
 show wpAny _ A.in1 (rule "list.extend.makes-room" >>=fun _=>Builtin.List.listTouch (.ref s.heap.objs.size) >>=fun _=>
   again (.builtin "list.extend.loop" ⟨[.ref s.heap.objs.size,.ref H1.objs.size,.ref s.heap.objs.size],[]⟩)) _ _ _
 refine wpAny_bind (wpAny_rule ?_);refine wpAny_bind ?_;show wpAny _ A.in1 (updateSeq s.heap.objs.size (·.push .none) >>=fun _=>updateSeq s.heap.objs.size (·.pop)) _ _ _;refine wpAny_bind (wpAny_updateSeq hS₂ rfl ?_);have hS₃:=Heap.get?_update_self (Obj.mapSeq (·.push Value.none)) hS₂ rfl;refine wpAny_updateSeq hS₃ rfl ?_;have hS₄:=Heap.get?_update_self (Obj.mapSeq (·.pop)) hS₃ rfl
 have oth:∀b o,b≠s.heap.objs.size->H2.get? b=some o->((H2.update s.heap.objs.size (Obj.mapSeq (·.push Value.none))).update s.heap.objs.size (Obj.mapSeq (·.pop))).get? b=some o:=
   fun b o hb e=>(Heap.get?_update_other _ _ (Ne.symm hb)).trans ((Heap.get?_update_other _ _ (Ne.symm hb)).trans e)
 refine wpAny_pure ⟨plainId_quiet F.plain_extend_loop _,codeAny_extend_loopS W hn _ hSf _ kvs.length 0 _ _ _ rfl (du3 _)
   ⟨hit.at fun o e=>oth _ o hIS e,hm₂.at' fun o e=>oth _ o hdS.symm e⟩ hS₄ (ItemsOf.nil _) fun s' acc' c' hmv hS' hacc=> ?_⟩
 show wpAny _ A (load s.heap.objs.size >>=_) _ _ s';refine wpAny_bind (wpAny_load hS' ?_);refine wpAny_pure ?_
 have es':s'={s with heap:=s'.heap,toks:=s'.toks}:=by
   obtain ⟨h,g,dr,t,os⟩:=s';have a1:=hmv.gens;have a2:=hmv.drawn;have a3:=hmv.os
   dsimp only at a1 a2 a3
   rw[a1,a2,a3]
 rw[es'];refine hQ s'.heap s'.toks acc' (dz1 (Heap.lt_size hS')) (fun b o e=> ?_) hacc.1 hacc.2;have hb:b < s.heap.objs.size:=Heap.lt_size e;have hbS:b≠s.heap.objs.size:=dw3 hb;refine hmv.heap b o (fun hm=> ?_) (oth b o hbS (old2 b o e))
 rcases dt7.mp hm with z|z
 · exact hbS z
 · have:b=H1.objs.size:=by simpa using z
   rw[this,hsz1] at hb;exact absurd hb (Nat.not_lt.mpr (ei7 _))
theorem bw7 {d:Addr}{kvs:List (κ×Value)}{ep:Nat}{ns:List Int}{Q:Value->Shared->Prop}(hh:A.handled=none)(hd:(d==sysModules)=false)(hm:s.heap.DictAt knd d kvs ep)(hI:∀acc:Array Value,acc.size=kvs.length->(∀(j:Nat) v,acc[j]? =some v->∃k x,kvs[j]? =some (k,x)/\knd.is k v=true)->IntsAre acc.toList ns)(h64:kvs.length < 64)
   (h:∀(h':Heap) (tk:Nat) (a:Addr) (out:Array Value) (ns':List Int) (e:Nat),s.heap.objs.size<=a->(∀b o,s.heap.get? b=some o->h'.get? b=some o)->h'.get? a=some (seqObj "list" out e)->IntsAre out.toList ns'->ns'.Perm ns->ns'.Pairwise (· <= ·)->Q (.ref a) {s with heap:=h',toks:=tk}):
   wpAny (model prog w) A (call (.builtin "sorted") [.ref d]) Q E s:=by
 refine Calls.call_function_entry kind_sorted plain_sorted entry_sorted (args_sorted1 _) ?_;unfold Builtin.«sorted»;refine wpAny_bind (m:=checkCount "sorted" 1 1 _) (wpAny_pure ?_);refine wpAny_bind (bp5 hh hd hm (by rw[sizeLine_eq];omega) fun h1 tk acc hle old hsz hit=> ?_);have hInt:=hI acc hsz hit;refine wpAny_bind (wpAny_newList ?_ (hsz:=by rw[du5,hsz,sizeLine_eq];omega));have hoL:(h1.push (seqObj "list" acc.toList.toArray 0)).get? h1.objs.size=some (seqObj "list" acc.toList.toArray 0):=Heap.get?_push_size _ rfl;show wpAny _ _ _ _ _ {s with heap:=h1.push (seqObj "list" acc.toList.toArray 0),toks:=tk};refine wpAny_bind (wpAny_holding (wpAny_call_entry slot_list_sort ⟨_,hoL,rfl⟩ entry_list_sort (list_sort_tree hoL hInt (by rw[du5,hsz];exact h64) fun out ns' a1 a2 a3=>⟨_,rfl,?_⟩) (args_list_sort _)));refine wpAny_pure ⟨_,rfl,?_⟩;obtain ⟨e,he⟩:=sortedHeap_at (out:=out) hoL;refine h _ tk h1.objs.size out ns' e hle (fun b o e=> ?_) he a1 a2 a3;have hb1:=old b o e;have hlt:b < h1.objs.size:=Heap.lt_size hb1;rw[sortedHeap_old (dw3 hlt) (by rw[Heap.size_push];exact ef3 hlt)];exact Heap.get?_push_of_some _ hb1
end
section
variable {X:Cx}
theorem cr5 {pins:List (Addr×Obj)}{σ:St}{H:Hp}{s:Shared}(I:g9 X pins σ H s){h':Heap}{tk:Nat}{a:Addr}{out:Array Value}{ms:List Int}{e:Nat}(ha:s.heap.objs.size<=a)(k:∀b o,s.heap.get? b=some o->h'.get? b=some o)(he:h'.get? a=some (seqObj "list" out e))(hi:IntsAre out.toList ms)(hl:ms.length<=sizeLine):
   g9 X pins σ (c9 H a (.lst (ms.map V.int))) {s with heap:=h',toks:=tk}:=
 I.laid (t':=tk) k ha (show q9 X.prog X.w _ _ _ (.lst (ms.map V.int)) from ⟨by rw[ds1];exact hl,out.toList,e,ae8 hi,he⟩)
theorem bp6 (hc:X.calm=true):K9 X (.builtin "sorted") (fun xs H Q=>∃(d:Addr) (kvs:List (o3×V)) (ns:List Int),xs=[.ref d]/\H d=some (.dK kvs)/\kvs.map (·.1)=ns.map Sum.inl/\ns.length < 64/\∀(ms:List Int) l,ms.Perm ns->ms.Pairwise (· <= ·)->H l=none->Q (.ref l) (c9 H l (.lst (ms.map V.int)))):=by
 intro pins s σ H xs us Q I r h;obtain ⟨d,kvs,ns,rfl,hH,hk,h64,q⟩:=h;obtain ⟨u,rfl,rx⟩:=Q2 r;cases rx;obtain ⟨_,hsm,vs,rel,o,es,ep,ho,hcx,hdat,rr⟩:=(show q9 X.prog X.w H s.heap d (.dK kvs) from I.hok d _ hH);have hat:s.heap.DictAt (y6 X.prog X.w) d vs ep:=⟨o,es,ho,hcx,hdat,rr⟩;have hlen:kvs.length=vs.length:=rel.length
 have hkn:kvs.length=ns.length:=by have:=congrArg ef7 hk;rw[ds1,ds1] at this;exact this
 refine bw7 (ns:=ns) (I.ok.hd hc) hsm hat (fun acc hsz hit=> ?_) (by omega) fun h' tk a out ms e ha kp he hi pm srt=> ?_
 · refine ba3 (by rw[du5];omega) fun j i hj=> ?_
   have hjl:j < ns.length:=(ds3.mp hj).1
   have hja:j < acc.size:=by omega
   obtain ⟨k,x,hkx,his⟩:=hit j acc[j] (ef4 hja);have hj1:kvs[j]? =some kvs[j]:=ds2 (by omega);obtain ⟨⟨k',x'⟩,e2,e3,_⟩:=ba1 rel hj1;rw[hkx] at e2;cases e2;have e3:kvs[j].1=k:=e3;have e4:=congrArg (fun z:List o3=>z[j]?) hk;rw[ds9,ds9,hj1,hj] at e4;have e5:kvs[j].1=Sum.inl i:=Option.some.inj e4;rw[<-e3,e5] at his;obtain ⟨t,et⟩:=(show ∃t,acc[j]=Value.int i t from bp2 his);exact ⟨t,by rw[dy2,ef4 hja,et]⟩
 · have hl:ms.length<=sizeLine:=by rw[pm.length_eq,sizeLine_eq];omega
   exact ⟨.ref a,_,cr5 I ha kp he hi hl,rfl,q ms a pm srt (I.hok.fresh ha)⟩
theorem ce1 {e:Expr}{t:TA}{p pos:Pos}(hc:X.calm=true)(hm:X.mg "sorted"=none)(ha:PA X [e] t)(hg:Gl X "sorted":=by rfl)(he:starEach [e] X.env=(false,eval e X.env)::starEach [] X.env:=by rfl):
   PE X (.Call (.Name "sorted" p) [e] [] pos) (X8 (fun xs H Q=>∃(d:Addr) (kvs:List (o3×V)) (ns:List Int),xs=[.ref d]/\H d=some (.dK kvs)/\kvs.map (·.1)=ns.map Sum.inl/\ns.length < 64/\∀(ms:List Int) l,ms.Perm ns->ms.Pairwise (· <= ·)->H l=none->Q (.ref l) (c9 H l (.lst (ms.map V.int)))) t):=
 O2 (bp6 hc) hg hm ac9 ha (by decide) (by decide) he rfl
def bp7 (lo st:Int)(n:Nat):It:=⟨fun i _=>i < n,fun i H x H'=>H'=H/\x= .int (lo+i*st),fun i _=>n<=i⟩
theorem bw8 {P:Program}{w:World}{K:PySem.W.Frag}{tg:Expr}(it:Addr)(lo st:Int)(n:Nat):bd1 P w K tg (bp7 lo st n) [it] it (fun i h=>IsRangeIter h it (lo+(i:Nat)*st) ((n:Int) - (i:Nat)) st) where
 mem:=by simp
 obj:=fun i h st' b hb=>by
   have e:b=it:=by simpa using hb
   subst e
   exact ⟨_,st',fun v z=>by
     have z':Data.fields _=Data.cell v:=z
     cases z'⟩
 keep:=fun i h h' st' k=>k it (by simp) _ st'
 item:=by
   intro X hP hw hK hc i pins s σ H E I hf st' hg;subst hP hw hK;obtain ⟨f0,f1,f2,f3,f4,f5⟩:=hf it (by simp);have W:=Walks.range (prog:=X.prog) (w:=X.w) (I.ok.hd hc) it lo st n
   refine W.item i s _ _ hg st' fun v h' tk hv st'' kk=> ?_
   obtain ⟨t,rfl⟩:=hv;have I1:g9 X pins σ H {s with heap:=h',toks:=tk}:=I.turned (fun b o hb e=>kk b o (by simpa using hb) e) f0 f1 f3 f4 f5;exact ⟨_,rfl,bl5 (s:={s with heap:=h',toks:=tk}) (n:="range_iterator") st'' rfl rfl (by decide) ⟨.int (lo+i*st),H,I1,⟨t,rfl⟩,⟨rfl,rfl⟩,st'',fun b hb=>(hf b hb).1⟩⟩
 done:=by
   intro X hP hw hK hc i pins s σ H E I hf st' hg;subst hP hw hK;obtain ⟨f0,f1,f2,f3,f4,f5⟩:=hf it (by simp)
   exact wpAny_pyNext_range_end (I.ok.hd hc) st' (by have:n<=i:=hg;omega) fun h' eb=>⟨rfl,I.turned (t':=s.toks) (fun b o hb e=>eb b o hb e) f0 f1 f3 f4 f5⟩
 self:=fun _ _ _ _ _ st' h=>wpAny_pyIter_rangeiter st' h
def dl8 (ta:TA):TI:=fun σ H R=>ta σ H fun vs H1=>∃(b c:Nat),vs=[.int 0,.int (b:Int),.int (c:Int)]/\1<=b/\b<=1000/\1<=c/\c<=1000/\R (bp7 0 (c:Int) ((b - 1)/c+1)) H1
theorem cx3 {b c:Nat}(b1:1<=b)(c1:1<=c):Builtin.Range.rangeSize 0 (b:Int) (c:Int)=(((b - 1)/c+1:Nat):Int):=by
 unfold Builtin.Range.rangeSize;rw[if_pos (by omega),if_pos (by omega)]
 have:(b:Int) - 0 - 1=((b - 1:Nat):Int):=by omega
 rw[this,<-Int.natCast_ediv];rfl
theorem dg7 {b c:Nat}(b1:1<=b)(b2:b<=1000)(c1:1<=c)(c2:c<=1000):Builtin.Range.small 0 (b:Int) (c:Int)=true:=by
 unfold Builtin.Range.small;rw[cx3 b1 c1];have h1:(b - 1)/c<=b - 1:=Nat.div_le_self _ _;have h2:(b - 1)/c*c<=b - 1:=Nat.div_mul_le_self _ _;generalize hq:(b - 1)/c=q at h1 h2 ⊢;simp only[Builtin.Range.rangeFitsLong,ed8,el3,decide_eq_true_eq,beq_iff_eq,show (c:Int) > 0 by omega,if_true];exact ⟨⟨⟨⟨⟨by decide,by decide⟩,by omega,by omega⟩,by omega,by omega⟩,by omega,by omega⟩,.inr ⟨by omega,by omega⟩⟩
theorem cl6 {tg a b c:Expr}{ta:TA}{p pos:Pos}(hg:Gl X "range")(hm:X.mg "range"=none)(ha:PA X [a,b,c] ta)(hs:starEach [a,b,c] X.env=(false,eval a X.env)::starEach [b,c] X.env:=by rfl)(hpl:(backTo pos (starEach [b,c] X.env)).any (·.1)=false:=by rfl):
   PI X tg (.Call (.Name "range" p) [a,b,c] [] pos) (dl8 ta):=by
 intro pins s σ H R I h;refine Call_ (X6 I hg hm boot_range (PyProof.Rows.callWith_type1 (p6 (ha pos pins s σ H _ I h) fun us s1 ⟨vs,H1,I1,r1,q1⟩=> ?_) hs hpl));obtain ⟨bn,cn,e,b1,b2,c1,c2,q⟩:=q1;subst e
 cases r1 with
 |cons r rr=>
  cases rr with
  |cons r' rr=>
   cases rr with
   |cons r'' rr=>
    cases rr;obtain ⟨t,rfl⟩:=r;obtain ⟨t',rfl⟩:=r';obtain ⟨t'',rfl⟩:=r'';refine call_range_3 (by omega) ?_ (.inl (PyProof.noPylong_small (by omega)));refine wpAny_pyIter_range (IsRange.new ..) (dg7 b1 b2 c1 c2) ?_
    have I2:g9 X pins σ H1 {s1 with heap:=s1.heap.push {cls:= .type "range",data:= .fields #[.int 0 t,.int (bn:Int) t',.int (cn:Int) t'']},toks:=s1.toks}:=I1.kept fun b o e=>Heap.get?_push_of_some _ e
    refine ⟨(s1.heap.push {cls:= .type "range",data:= .fields #[.int 0 t,.int (bn:Int) t',.int (cn:Int) t'']}).objs.size,[(s1.heap.push {cls:= .type "range",data:= .fields #[.int 0 t,.int (bn:Int) t',.int (cn:Int) t'']}).objs.size],_,_,H1,rfl,
      I2.kept (t':=s1.toks) fun b o e=>Heap.get?_push_of_some _ e,bw8 _ 0 (cn:Int) ((bn - 1)/cn+1),?_,fun b hb=> ?_,q⟩
    · show IsRangeIter _ _ ((0:Int)+((0:Nat):Int)*(cn:Int)) ((((bn - 1)/cn+1:Nat):Int) - ((0:Nat):Int)) (cn:Int)
      have e1:(0:Int)+((0:Nat):Int)*(cn:Int)=0:=by simp
      have e2:(((bn - 1)/cn+1:Nat):Int) - ((0:Nat):Int)=Builtin.Range.rangeSize 0 (bn:Int) (cn:Int):=by rw[cx3 b1 c1];omega
      rw[e1,e2];exact Heap.get?_push_size _ rfl
    · have e:b=(s1.heap.push {cls:= .type "range",data:= .fields #[.int 0 t,.int (bn:Int) t',.int (cn:Int) t'']}).objs.size:=by simpa using hb
      subst e;exact I2.fpOk (ds4 _) (I2.hok.fresh (ds4 _))
theorem ce2 {lo st:Int}{n:Nat}{g:TG}{tb:TS}{D:ab9}{σ:St}{H:Hp}(Pv:Nat->St->Hp->Prop)(h0:Pv 0 σ H)
   (hs:∀i σ H,i < n->Pv i σ H->g (.int (lo+i*st)) σ H fun σ2 H2=>tb {D with nx:=Pv (i+1),ct:=Pv (i+1),bk:=D.nx} σ2 H2) (hd:∀σ H,Pv n σ H->D.nx σ H):
   ∃W:Nat->Nat->St->Hp->Prop,(∃m,W 0 m σ H)/\∀i m σ H,W i m σ H->
    ((bp7 lo st n).stop i H/\D.nx σ H)\/((bp7 lo st n).go i H/\∃N:St->Hp->Prop,(∀σ' H',N σ' H'->∃m',m' < m/\W (i+1) m' σ' H')/\∀x H',(bp7 lo st n).yld i H x H'->g x σ H' fun σ2 H2=>tb {D with nx:=N,ct:=N,bk:=D.nx} σ2 H2):=by
 refine ⟨fun i m σ H=>m=n - i/\i<=n/\Pv i σ H,⟨n,by simp,du3 _,h0⟩,?_⟩;rintro i m σ H ⟨rfl,hi,p⟩
 by_cases hlt:i < n
 · refine .inr ⟨hlt,Pv (i+1),fun σ' H' p'=>⟨n - (i+1),by omega,rfl,hlt,p'⟩,fun x H' y=> ?_⟩;obtain ⟨e,y⟩:=y;subst e y;exact hs i σ _ hlt p
 · have e:i=n:=by omega
   subst e;exact .inl ⟨ds4 _,hd σ H p⟩
end
end L2
namespace Mth
theorem bp8 {p:List Int}(t:o6 p):∀i,i<=p.length->y8 p i (j9 p i)
 |0,_=>az7 p
 |i+1,h=>by
  have ih:=bp8 t i (by omega);show y8 p (i+1) (if (i:Int)∈(j9 p i).flatten then j9 p i else j9 p i++[m7 p i (G0 p i)]);have hx:In p (i:Int):=⟨by omega,by omega⟩
  by_cases hi:(i:Int)∈(j9 p i).flatten
  · rw[if_pos hi];exact az8 ih hi
  · rw[if_neg hi];obtain ⟨L,hL⟩:=ba0 t hx;rw[S6 hL];exact az9 t ih hx hL hi
theorem J4 {p:List Int}(t:o6 p):y8 p p.length (j9 p p.length):=bp8 t _ (ds4 _)
theorem ba4 {p t:List Int}{k:Int}(tp:o6 p)(h:B7 p k t){x:Int}(hx:In p x){L:Nat}(hL:D7 p x L){m:Nat}(hm:((m:Int) - k)%(L:Int)=0):∀i,it t i x=it p (m*i) x
 |0=>by rw[ee9];rfl
 |i+1=>by
  show nx t (it t i x)=_;rw[ba4 tp h hx hL hm i];obtain ⟨M,hM,e⟩:=ck6 h (L1 tp hx (m*i));have:=(hL.shift tp hx (m*i)).uniq hM;subst this;rw[e m hm,<-D1,en4,ec4]
theorem bz2 {p t:List Int}{k:Int}(tp:o6 p)(h:B7 p k t){x:Int}(hx:In p x){L:Nat}(hL:D7 p x L){m:Nat}(hm:((m:Int) - k)%(L:Int)=0):D7 t x (L/du0 L m):=by
 have lp:=hL.pos;have gp:0 < du0 L m:=ej4 _ lp;obtain ⟨a,ha⟩:=ef9 L m;obtain ⟨b,hb⟩:=ea2 L m;have cp:ef8 (L/du0 L m) (m/du0 L m):=eh7 gp;generalize du0 L m=g at*
 have e1:L/g=a:=by rw[ha,dy9 _ gp]
 have e2:m/g=b:=by rw[hb,dy9 _ gp]
 rw[e1,e2] at cp;rw[e1];refine ⟨?_,?_,fun i i0 i1 e=> ?_⟩
 · rcases eb1 a with z|z
   · rw[z] at ha;omega
   · exact z
 · rw[ba4 tp h hx hL hm,hb,show g*b*a=L*b by rw[ha];ac_rfl];exact an9 hL.back b
 · rw[ba4 tp h hx hL hm] at e;have d:=by7 hL e;rw[ha,hb,dx3] at d;have d2:a∣b*i:=eh6 gp d;have d3:a∣i:=cp.dvd_of_dvd_mul_left d2;exact absurd (ef5 i0 d3) (by omega)
theorem bi6 {D:Nat}{g:Int->Bool}:∀{rs:List (List Int)},(∀r∈rs,(∀x∈r,g x=false)\/((∀x∈r,g x=true)/\D∣r.length))->D∣rs.flatten.countP g
 |[],_=>by simp
 |r::rs,h=>by
  have ih:=bi6 (D:=D) (g:=g) (rs:=rs) fun q hq=>h q (ds6 _ hq)
  rw[dt9,ed1];refine Nat.dvd_add ?_ ih
  rcases h r ds5 with z|⟨z,d⟩
  · rw[ea7.mpr fun x hx=>by rw[z x hx];decide];exact el6 D
  · rw[List.countP_eq_length.mpr fun x hx=>z x hx];exact d
theorem ce3 {p:List Int}(t:o6 p)(l:Nat):((L2.n6 0 p.length).countP fun x=>decide (G0 p x=l))=l*l7 (j9 p p.length) l:=by
 rw[<-U6 (bz0 t (J4 t)),(ai3 t (J4 t)).countP_eq]
theorem bp9 {p:List Int}(t:o6 p):l7 (j9 p p.length) 0=0:=by
 by_cases z:l7 (j9 p p.length) 0=0
 · exact z
 · obtain ⟨r,hr,e⟩:=ar1 z;obtain ⟨y,L,hy,pr,er,_⟩:=(J4 t).ring r hr;rw[er,n9] at e;have:=pr.pos;omega
theorem ce4 {r p:List Int}{m l d:Nat}(tr:o6 r)(h:B7 r (m:Int) p)(hd:M7 l m d):d∣l7 (j9 p p.length) l:=by
 have tp:=cz9 tr h
 rcases eb1 l with z|l0
 · rw[z,bp9 tp];exact el6 d
 have e:=ce3 tp l
 have key:l*d∣l*l7 (j9 p p.length) l:=by
   rw[<-e,h.1,<-(ai3 tr (J4 tr)).countP_eq]
   refine bi6 fun q hq=> ?_
   obtain ⟨y,L,hy,pr,er,_⟩:=(J4 tr).ring q hq
   have pers:∀x∈q,G0 p x=L/du0 L m:=fun x hx=>by
     rw[er] at hx;obtain ⟨j,hj,rfl⟩:=B9.mp hx;exact S6 (bz2 tr h (L1 tr hy j) (pr.shift tr hy j) (by rw[Int.sub_self];rfl))
   by_cases hl:L/du0 L m=l
   · refine .inr ⟨fun x hx=>by rw[pers x hx];exact decide_eq_true hl,?_⟩;have gp:0 < du0 L m:=ej4 _ pr.pos
     have eL:L=l*du0 L m:=by rw[<-hl,Nat.div_mul_cancel (ef9 L m)]
     rw[er,n9]
     have hr:d∣du0 L m:=by
       refine hd.least _ (ea2 L m) ?_;have:=eh7 gp;rw[hl] at this;exact this
     rw[eL];exact el0 l hr
   · exact .inl fun x hx=>by rw[pers x hx];exact decide_eq_false hl
 exact eh6 l0 key
structure dg8 (c:Nat->Nat)(m l d:Nat):Prop where
 some:1<=c l
 right:M7 l m d
 bad:¬d∣c l
 less:∀k,1<=c k->k < l->∀e,M7 k m e->e∣c k
end Mth
namespace Mth
def w9 (rs:List (List Int))(l:Nat):List (List Int):=rs.filter fun r=>decide (r.length=l)
theorem Q4 (rs:List (List Int))(l:Nat):(w9 rs l).length=l7 rs l:=by unfold w9 l7;rw[eh2]
def JO (m:Nat)(rs:List (List Int))(J:List Int)(Rs:List (List Int)):Prop:=
 ∃l k,0 < l/\m=Rs.length*k/\du0 l k=1/\(∀r∈Rs,r.length=l)/\1<=Rs.length/\C5 l k Rs J/\(∀r∈Rs,r∈rs)/\M7 l m Rs.length/\∃j,Rs=((w9 rs l).drop (j*Rs.length)).take Rs.length
def bq0 (p:List Int)(m:Nat)(r:List Int):Prop:=r.length=p.length/\∀r0∈j9 p p.length,∃J Rs,JO m (j9 p p.length) J Rs/\r0∈Rs/\G3 r J
theorem C5.uniq {l k:Nat}{Rs:List (List Int)}{J J':List Int}(hl:0 < l)(c:du0 l k=1)(h:C5 l k Rs J)(h':C5 l k Rs J'):J=J':=by
 have e:=h.at_.trans h'.at_.symm
 refine dx9 fun i=> ?_
 by_cases hi:i < Rs.length*l
 · have ip:=ak3 (d:=Rs.length) hl c;have hm:(i:Int)∈O4 Rs.length l k:=ip.perm.mem_iff.mpr (A4.mpr ⟨by omega,by rw[W5];omega⟩);obtain ⟨n,hn⟩:=dv7.mp hm;have e2:=congrArg (fun z:List (Option Int)=>z[n]?) e;simp only[ds9,hn,Option.map_some] at e2;have e3:=Option.some.inj e2;unfold A1 at e3;rw[dx5] at e3;exact e3
 · rw[dt5 (by rw[h.len];omega),dt5 (by rw[h'.len];omega)]
end Mth
namespace Mth
theorem da2 {n c:Int}(hn:1<=n)(hc:0<=c):∃mx,(if (if c < n then c else n) > 1 then (if c < n then c else n) else (1:Int))=mx/\1<=mx/\mx<=n:=by
 refine ⟨_,rfl,?_⟩
 split<;>split at* <;>omega
end Mth
namespace L2
open PySem PySem.Spec PyProof.Rows
def KI (kvs:List (o3×V))(ns:List Int):Prop:=kvs.map (·.1)=ns.map Sum.inl
theorem bq1:∀{kvs:List (o3×V)} {ns:List Int},KI kvs ns->∀k:Int,k∈ns↔∃v,A7 kvs (Sum.inl k:o3)=some v
 |[],[],_,k=>⟨fun h=>by simp at h,fun ⟨v,h⟩=>by cases h⟩
 |[],n::ns,h,_=>by unfold KI at h;simp at h
 |p::kvs,[],h,_=>by unfold KI at h;simp at h
 |p::kvs,n::ns,h,k=>by
  unfold KI at h;rw[du9,du9] at h
  injection h with h1 h2
  by_cases e:n=k
  · have:p.1=(Sum.inl k:o3):=by rw[h1,e]
    rw[W1 this];exact ⟨fun _=>⟨_,rfl⟩,fun _=>by rw[e];exact ds5⟩
  · have:¬p.1=(Sum.inl k:o3):=fun z=>e (by rw[h1] at z;exact Sum.inl.inj z)
    rw[S5 this];constructor
    · intro hm
      rcases dt7.mp hm with z|z
      · exact absurd z.symm e
      · exact (bq1 (show KI kvs ns from h2) k).mp z
    · intro hv;exact ds6 _ ((bq1 (show KI kvs ns from h2) k).mpr hv)
theorem da3 {kvs:List (o3×V)}{ns:List Int}(h:KI kvs ns){k:Int}(hk:k∉ns):A7 kvs (Sum.inl k:o3)=none:=by
 cases e:A7 kvs (Sum.inl k:o3) with
 |none=>rfl
 |some v=>exact absurd ((bq1 h k).mpr ⟨v,e⟩) hk
theorem au0:bootBuiltins "tuple"=some (.type "tuple"):=by decide+kernel
end L2
namespace L2
open PySem PySem.Spec PyProof.Rows
structure XPS (X:Cx)(st:Stmt)(t:TS):Prop where
 h:PS X st t
structure dg9 (X:Cx)(st:List Stmt)(t:TS):Prop where
 h:X5 X st t
section
variable {X:Cx} {st:Stmt} {rest:List Stmt} {t u:TS}
theorem cr6 {tg:Expr}{es:List Expr}{tpos pos:Pos}{body:List Stmt}{g:TG}{tb:TS}(ns:List Int)(h:ai4 es=some ns)(hc:X.calm=true)(hp:PassesOwn (model X.prog X.w) X.A X.env X.xe)(hg:PG X tg g)(hb:X5 X body tb)
 (hs:∀x,foldedSetIterable (.List es tpos) X.env x=pure x:=by intro _;rfl):XPS X (.For tg (.List es tpos) body [] pos) (de4 (cw2 X.K (cx1 ns)) g tb):=⟨l9 hp hc (t5 (bp0 ns h)) hg hb hs⟩
theorem da4 (h1:XPS X st t)(h2:X5 X rest u):dg9 X (st::rest) (cp0 t u):=⟨c7 h1.h h2⟩
theorem dh0 (h1:PS X st t)(h2:dg9 X rest u):X5 X (st::rest) (cp0 t u):=c7 h1 h2.h
end
end L2
namespace Mth
theorem af2 {l m d:Nat}(d1:0 < d):du0 (d*l) m=d↔d∣m/\du0 l (m/d)=1:=by
 constructor
 · intro h;have hd:d∣m:=h▸ea2 (d*l) m;refine ⟨hd,?_⟩;have e:m=d*(m/d):=(ei4 hd).symm
   have h2:du0 (d*l) (d*(m/d))=d:=by rw[<-e];exact h
   rw[en1] at h2;exact eb7 d1 (by rw[h2,ed6])
 · rintro ⟨hd,h⟩;have e:m=d*(m/d):=(ei4 hd).symm;rw[e,en1,h,ed6]
end Mth
namespace L2
open PySem PySem.Spec PyProof.Rows
def bq2 (a b:Sp):Sp:=fun vs H Q E=>a vs H Q E\/b vs H Q E
section
variable {P:Program} {w:World} {K:PySem.W.Frag} {mg:Str->Option Value} {base:Heap} {CX:CXT} {k:Nat} {f:Addr} {fd:FuncData} {ps:List Str} {a b:Sp}
theorem dl9 (x:o7 P w K mg base CX k f fd ps a)(y:o7 P w K mg base CX k f fd ps b):o7 P w K mg base CX k f fd ps (bq2 a b):=
 ⟨fun vs H Q E h=>h.elim (x.len vs H Q E) (y.len vs H Q E),fun A outer s H args us vs Q E r e bt v h=>h.elim (x.run A outer s H args us vs Q E r e bt v) (y.run A outer s H args us vs Q E r e bt v)⟩
theorem dm0 {x:Str}(c:j7 P w K mg base x k ps (bq2 a b)):j7 P w K mg base x k ps a:=by
 obtain ⟨f,fd,h1,h2,h3,h4⟩:=c;exact ⟨f,fd,h1,h2,h3,h4.imp fun vs H Q E z=> .inl z⟩
end
end L2
namespace L2
open PySem PySem.Spec PyProof.Rows
section
variable {X:Cx}
theorem bq3 {e:Expr}:PE X e (fun _ _ _=>False):=fun _ _ _ _ _ _ h=>h.elim
theorem cl7 (K:PySem.W.Frag){o e:Expr}{to:TE}{t:TA}{apos pos:Pos}(ho:PE X o to)(ha:PA X [e] t)(hK:X.K=K:=by rfl)
   (hbase:attributeBase o "pop" X.env (eval o X.env)=eval o X.env:=by rfl)
   (hfew:((backTo pos (starEach [e] X.env)).all (fun x=> !x.1)&&(backToKw pos (keywordEach [] X.env)).all (fun x=>x.1.isSome)
     &&decide ([e].length+([]:List Keyword).length+(if ([]:List Keyword).isEmpty then 0 else 1) < 30))=true:=by rfl)
   (hline:(apos.endLine==pos.line)=true:=by rfl) (hs:starEach [e] X.env=(false,eval e X.env)::starEach [] X.env:=by rfl) (hplain:(backTo pos (starEach [] X.env)).any (·.1)=false:=by rfl):
   PE X (.Call (.Attribute o "pop" apos) [e] [] pos) (tBM K "list" ci6 to t):=by
 subst hK;exact bl8 PySem.F.plainAttrs_list PySem.F.slot_list_pop PySem.F.type_list_pop cp8 ho ha hbase hfew hline hs hplain
end
end L2
namespace HT
open PySem PySem.Spec PyProof.Rows
open PySem.AutoSeq1
open PySem.MeetsSeq PySem.MeetsSeq2 PySem.MeetsSeq3
theorem bd8 {xs:Array Value}{i:Nat}{x:Value}{r:List Value}(h:xs.toList.drop i=x::r):xs[((i:Nat):Int).toNat]? =some x/\xs.toList.drop (i+1)=r/\i < xs.size:=by
 have hl:i < xs.size:=by
   rcases ej3 i xs.size with z|z
   · exact z
   · rw[List.drop_of_length_le (by simpa using z)] at h;cases h
 refine ⟨?_,?_,hl⟩
 · rw[dx5,<-dy2];have:=congrArg List.head? h;rw[List.head?_drop] at this
   simpa using this
 · have:=congrArg List.tail h;rw[List.tail_drop] at this;exact this
theorem bq4 {xs:Array Value}{i:Nat}(h:xs.toList.drop i=[]):xs[((i:Nat):Int).toNat]? =none/\xs.size<=i:=by
 have hl:xs.size<=i:=by
   have:=congrArg ef7 h;rw[dx1] at this;simp at this;omega
 exact ⟨by rw[dx5];simp [hl],hl⟩
abbrev ce5 (h:Heap)(a:Addr)(xs:Array Value)(n:Nat):Prop:=h.get? a=some {cls:= .type "list",dict:=none,data:= .seq xs n,slots:= #[]}
theorem da5 (l b:Addr)(items items2:Array Value)(n n2:Nat):∀(ns ms:List Int) (vs ws:List Value) (i:Nat),IntsAre vs ns->IntsAre ws ms->items.toList.drop i=vs->items2.toList.drop i=ws->i<=items.size->i<=items2.size->
   Meets (Builtin.«list.__eq__.loop» ⟨[.ref l,.ref b,rawInt i,rawInt 0],[]⟩)
     (fun _ R s=>(ce5 s.heap l items n/\ce5 s.heap b items2 n2)/\R (.ok (.ret (.bool (aq4 ns ms)))) s):=by
 intro ns
 induction ns with
 |nil=>
  intro ms vs ws i hv hw e1 e2 i1 i2 prog w A R s h;obtain ⟨h0,g0,d0,k0,o0⟩:=s;obtain ⟨⟨hx,hy⟩,h⟩:=h;cases hv;obtain ⟨g1,z1⟩:=bq4 e1
  wp_walk using wpAny_loadPart' hx,wpAny_loadPart' hy
  rw[g1]
  cases hw with
  |nil=>
   obtain ⟨g2,z2⟩:=bq4 e2
   wp_walk using wpAny_loadPart' hx,wpAny_loadPart' hy
   show R (.ok (.ret (.bool (decide (items.size < items2.size))))) _;rw[decide_eq_false (by omega)];exact h
  |cons c u hw'=>
   obtain ⟨g2,_,z2⟩:=bd8 e2
   wp_walk using wpAny_loadPart' hx,wpAny_loadPart' hy
   show R (.ok (.ret (.bool (decide (items.size < items2.size))))) _;rw[decide_eq_true (by omega)];exact h
 |cons a ns ih=>
  intro ms vs ws i hv hw e1 e2 i1 i2 prog w A R s h;obtain ⟨h0,g0,d0,k0,o0⟩:=s;obtain ⟨⟨hx,hy⟩,h⟩:=h
  cases hv with
  |cons _ t hv'=>
   obtain ⟨g1,d1,z1⟩:=bd8 e1
   wp_walk using wpAny_loadPart' hx,wpAny_loadPart' hy
   rw[g1]
   cases hw with
   |nil=>
    obtain ⟨g2,z2⟩:=bq4 e2;rw[g2]
    wp_walk using wpAny_loadPart' hx,wpAny_loadPart' hy
    show R (.ok (.ret (.bool (decide (items.size < items2.size))))) _;rw[decide_eq_false (by omega)];exact h
   |cons c u hw'=>
    obtain ⟨g2,d2,z2⟩:=bd8 e2;rw[g2];rw[cd0] at h;obtain ⟨e,he,hiff⟩:=cp6 A.in1 ⟨h0,g0,d0,k0,o0⟩ a t c u;refine wpAny_bind (he prog w _ _ ?_)
    cases e with
    |true=>
     rw[if_pos (hiff.mp rfl)] at h
     wp_walk
     rw[show ((i:Int)+1)=((i+1:Nat):Int) from rfl];refine ⟨plainId_quiet plain_eq_loop _,codeAny_builtin entry_eq_loop ?_⟩
     (rw[Around.under_plainId plain_eq_loop _];exact ih _ _ _ (i+1) hv' hw' d1 d2 (by omega) (by omega) prog w A R _ ⟨⟨hx,hy⟩,h⟩)
    |false=>
     rw[if_neg (fun q=>absurd (hiff.mpr q) dv3)] at h;have less:=cp7 A.in1 ⟨h0,g0,d0,k0,o0⟩ a t c u prog w
     wp_walk using wpAny_loadPart' hx,wpAny_loadPart' hy
     rw[g1,g2]
     wp_walk using less
     exact h
theorem dh1 (l b:Addr)(items items2:Array Value)(n n2:Nat)(ns ms:List Int)(hi:IntsAre items.toList ns)(hj:IntsAre items2.toList ms):
   Meets (Builtin.«list.__lt__» ⟨[.ref l,.ref b],[]⟩)
     (fun _ R s=>(ce5 s.heap l items n/\ce5 s.heap b items2 n2)/\R (.ok (.ret (.bool (aq4 ns ms)))) s):=by
 intro prog w A R s h;obtain ⟨h0,g0,d0,k0,o0⟩:=s;obtain ⟨⟨hx,hy⟩,h⟩:=h;have sub:=AutoSeq1.sub_list_list
 wp_walk using wpAny_loadPart' hx,wpAny_loadPart' hy
 refine ⟨plainId_quiet plain_eq_loop _,codeAny_builtin entry_eq_loop ?_⟩
 (rw[Around.under_plainId plain_eq_loop _];exact da5 l b items items2 n n2 ns ms _ _ 0 hi hj rfl rfl (du3 _) (du3 _) prog w A R _ ⟨⟨hx,hy⟩,h⟩)
end HT
namespace L2
open PySem PySem.Spec PyProof.Rows
section
variable {prog:Program} {w:World} {A:Around} {E:Value->Shared->Prop} {s:Shared}
def af3 (h:Heap)(v:Value)(ns:List Int):Prop:=∃p xs n,v= .ref p/\HT.ce5 h p xs n/\IntsAre xs.toList ns
theorem ba5 {α β:Type}{f:α->Sem β}(g:α->β):∀{vs:List α} {Q:List β->Shared->Prop},(∀v,v∈vs->∀R:β->Shared->Prop,R (g v) s->wpAny (model prog w) A (f v) R E s)->Q (vs.map g) s->wpAny (model prog w) A (vs.mapM f) Q E s
 |[],Q,_,q=>by rw[List.mapM_nil];exact wpAny_pure q
 |v::vs,Q,k,q=>by
  rw[List.mapM_cons];refine wpAny_bind (k v (ds5 ..) _ ?_);refine wpAny_bind (ba5 g (fun u hu=>k u (ds6 _ hu)) ?_);exact wpAny_pure q
theorem bq5 {α β:Type}{f:α->Sem β}(g:α->β){vs:List α}{Q:Array β->Shared->Prop}(k:∀v,v∈vs->∀R:β->Shared->Prop,R (g v) s->wpAny (model prog w) A (f v) R E s)(q:Q (vs.map g).toArray s):wpAny (model prog w) A (vs.toArray.mapM f) Q E s:=by
 rw[List.mapM_toArray,map_eq_pure_bind];exact wpAny_bind (ba5 g k (wpAny_pure q))
theorem ce6 (v:Value):firstOfTuple' v=(do
 if (<-typeOf v)!= .type "tuple" then return none
 return (<-Builtin.List.listItems v)[0]?):=rfl
theorem cl8 {v:Value}{ns:List Int}(r:af3 s.heap v ns){Q:Option Value->Shared->Prop}(k:Q none s):wpAny (model prog w) A (firstOfTuple' v) Q E s:=by
 obtain ⟨p,xs,n,rfl,ox,ix⟩:=r;rw[ce6];refine wpAny_bind (wpAny_typeOf (T:="list") ⟨_,ox,rfl⟩ ?_);rw[if_pos (by decide)];exact wpAny_pure k
theorem cr7 {v:Value}{ns:List Int}(r:af3 s.heap v ns){Q:Value->Shared->Prop}(k:Q (.type "list") s):wpAny (model prog w) A (typeOf v) Q E s:=by
 obtain ⟨p,xs,n,rfl,ox,ix⟩:=r;exact wpAny_typeOf (T:="list") ⟨_,ox,rfl⟩ k
theorem cl9 {v₁ v₂:Value}{vs:List Value}{Q:SortKind->Shared->Prop}(r:∀v,v∈v₁::v₂::vs->∃ns,af3 s.heap v ns)(k:Q oneType' s):wpAny (model prog w) A (keyKind' (v₁::v₂::vs).toArray) Q E s:=by
 rw[keyKind'_eq];refine wpAny_bind (bq5 (fun _=>none) (fun v hv R q=>by obtain ⟨ns,z⟩:=r v hv;exact cl8 z q) ?_);rw[if_neg (by simp),if_neg (by simp)];rw[oneTypeOnly'_eq];refine wpAny_bind (wpAny_bind (bq5 (fun _=>Value.type "list") (fun v hv R q=>by obtain ⟨ns,z⟩:=r v hv;exact cr7 z q) ?_))
 have h0:(List.map (fun _=>Value.type "list") (v₁::v₂::vs)).toArray[0]? =some (Value.type "list"):=by simp
 rw[h0]
 dsimp only
 rw[if_pos (by
   simp only[List.all_toArray,List.all_map,ec2];intro _ _
   rfl)]
 exact wpAny_pure (wpAny_pure k)
theorem bi7 (vs:List Value):(pairsOf vs).map (·.2)=vs.toArray:=by
 apply Array.toList_inj.mp
 rw[en2,pairsOf_toList];exact List.map_snd_zip (ds4 _)
end
end L2
namespace L2
open PySem PySem.Spec PyProof.Rows
def dm1 (i j:Int):Prop:=0 < j/\j.natAbs < 2^9000
theorem cr8 {X:Cx}:N8 X (binaryOp .FloorDiv) (rI dm1 fun i j=> .int (i/j)):=opI fun i j _ _ _ _ _ hc q=>by
 have hp:Builtin.divisionGoesByPylong i j=false:=PyProof.noPylong_of_log2 ((Nat.log2_lt (by have:=hc.1;omega)).mpr hc.2);refine floordiv_int (by have:=hc.1;omega) ?_ (.inl hp);rw[ei1 i (by have:=hc.1;omega)];exact q
end L2
namespace Mth
open L2 (n6)
def X3 (t:List Int)(rs:List (List Int)):Prop:=∀r∈rs,∀j,j < r.length->A1 t (r.getD j 0)=some (r.getD ((j+1)%r.length) 0)
theorem bi8 {t r:List Int}(h:∀j,j < r.length->A1 t (r.getD j 0)=some (r.getD ((j+1)%r.length) 0)):r.map (A1 t)=(r.drop 1++r.take 1).map some:=by
 cases r with
 |nil=>rfl
 |cons a r=>
  refine dx9 fun j=> ?_
  rw[ds9,ds9]
  by_cases hj:j < (a::r).length
  · have e:=h j hj;rw[ds7,ds2 hj] at e;rw[ds2 hj];show some (A1 t _)=_;rw[show A1 t (a::r)[j]=_ from e];have hl:(a::r).length=r.length+1:=rfl;rw[hl] at hj ⊢;show _=Option.map some (r++[a])[j]?
    by_cases z:j < r.length
    · rw[dy0 (by omega),dv8 z,ds7,ej2,ds2 z];rfl
    · have:j=r.length:=by omega
      subst this;rw[Nat.mod_self,dw7 (ds4 _),ej5];rfl
  · rw[dt5 (by omega),dt5 (by
      show (r++[a]).length<=j;rw[ds8];have:(a::r).length=r.length+1:=rfl
      simp only[eh3];omega)]
    rfl
theorem cr9 {t:List Int}{rs:List (List Int)}(al:X3 t rs)(fl:rs.flatten=n6 0 t.length):t.Perm rs.flatten:=by
 have e:t.map some=((rs.map fun r=>r.drop 1++r.take 1).flatten).map some:=by
   rw[<-ac7,<-fl,ek6,ek6,dw5]
   congr 1
   refine dx6 fun r hr=> ?_
   exact bi8 (al r hr)
 have e':=(List.map_inj_right (fun x y (h:some x=some y)=>Option.some.inj h)).mp e;rw[e'];clear e e' fl al
 induction rs with
 |nil=>exact List.Perm.refl _
 |cons r rs ih=>
  rw[du9,dt9,dt9];refine List.Perm.append ?_ ih;have:=ea1 (l₁:=r.drop 1) (l₂:=r.take 1)
  rwa [dx2] at this
theorem aa7 {t:List Int}{rs:List (List Int)}(al:X3 t rs)(fl:rs.flatten=n6 0 t.length):o6 t:=by
 have p:=cr9 al fl;rw[fl] at p
 refine ⟨p.nodup_iff.mpr (by rw[<-fl,fl];exact (by
   unfold L2.n6
   exact List.Pairwise.map _ (fun a b h=>by omega) (eb2 (n:=t.length)))),fun x hx=>(A4.mp (p.mem_iff.mp hx)).1,fun x hx=>(A4.mp (p.mem_iff.mp hx)).2⟩
theorem av5 {t r:List Int}(h:∀j,j < r.length->A1 t (r.getD j 0)=some (r.getD ((j+1)%r.length) 0)){j:Nat}(hj:j < r.length):∀k,it t k (r.getD j 0)=r.getD ((j+k)%r.length) 0
 |0=>by rw[ea9,dy0 hj];rfl
 |k+1=>by
  show nx t (it t k (r.getD j 0))=_;rw[av5 h hj k];have:=h ((j+k)%r.length) (ea6 _ (by omega));unfold A1 at this;unfold nx;rw[ds7,this];show r.getD (((j+k)%r.length+1)%r.length) 0=_;rw[en7];rfl
theorem bi9 {t:List Int}{rs:List (List Int)}(al:X3 t rs)(nd:rs.flatten.Nodup):∀r∈rs,∀x∈r,G0 t x=r.length:=by
 intro r hr x hx;obtain ⟨j,hj⟩:=dv7.mp hx;have hjl:j < r.length:=(ds3.mp hj).1
 have ex:x=r.getD j 0:=by rw[ds7,hj];rfl
 have ndr:r.Nodup:=nd.sublist (List.sublist_flatten_of_mem hr);subst ex;refine S6 ⟨by omega,?_,fun i i0 il=> ?_⟩
 · rw[av5 (al r hr) hjl,Nat.add_mod_right,dy0 hjl]
 · rw[av5 (al r hr) hjl];intro e;have hm:(j+i)%r.length < r.length:=ea6 _ (by omega);rw[ds7,ds7,ds2 hm,ds2 hjl] at e;have e2:=(du4.mp ndr)
   have ne:(j+i)%r.length≠j:=by
     by_cases z:j+i < r.length
     · rw[dy0 z];omega
     · rw[Nat.mod_eq_sub_mod (by omega),dy0 (by omega)];omega
   rcases Nat.lt_or_gt_of_ne ne with z|z
   · exact dv6.mp e2 _ _ hm hjl z e
   · exact dv6.mp e2 _ _ hjl hm z e.symm
theorem au1 {t:List Int}{rs:List (List Int)}(al:X3 t rs)(fl:rs.flatten=n6 0 t.length)(l:Nat):((((dv4 t.length).map fun (i:Nat)=>(G0 t (i:Int):Int))).countP fun i=>decide (i=(l:Int)))=l*l7 rs l:=by
 have nd:rs.flatten.Nodup:=by
   rw[fl];unfold L2.n6;exact List.Pairwise.map _ (fun a b h=>by omega) (eb2 (n:=t.length))
 rw[<-U6 (bi9 al nd),fl,dz0];unfold L2.n6;rw[dz0]
 refine dz3 fun i hi=> ?_
 simp
 constructor<;>intro h<;>omega
def E9:Nat->Nat
 |0=>1
 |n+1=>E9 n*(n+1)
def zK (kind:List Int):Nat->Nat
 |0=>1
 |i+1=>zK kind i*(kind.getD i 0).toNat*((kind.take (i+1)).countP fun x=>decide (x=kind.getD i 0))
theorem bj0 {f g:Nat->Nat}{c x:Nat}:∀{us:List Nat},us.Nodup->x∈us->g x=f x*c->(∀u∈us,u≠x->g u=f u)->j8 g us=j8 f us*c
 |[],_,hx,_,_=>by cases hx
 |u::us,nd,hx,h1,h2=>by
  show g u*j8 g us=f u*j8 f us*c;rw[dw4] at nd
  by_cases z:u=x
  · have same:j8 g us=j8 f us:=by
      have:∀vs:List Nat,(∀v∈vs,g v=f v)->j8 g vs=j8 f vs:=by
        intro vs
        induction vs with
        |nil=>intro _;rfl
        |cons v vs ih=>
         intro hv;show g v*j8 g vs=f v*j8 f vs;rw[hv v ds5,ih fun y hy=>hv y (ds6 _ hy)]
      exact this us fun v hv=>h2 v (ds6 _ hv) fun e=>nd.1 (by rw[z,<-e];exact hv)
    rw[same,z,h1,dx3,dy8 c,dx3]
  · have hx':x∈us:=by
      rcases dt7.mp hx with e|e
      · exact absurd e.symm z
      · exact e
    rw[h2 u ds5 z,bj0 nd.2 hx' h1 fun v hv=>h2 v (ds6 _ hv),dx3]
theorem bz3 {kind:List Int}(pos:∀x∈kind,1<=x){us:List Nat}(nd:us.Nodup)(hu:∀x∈kind,x.toNat∈us):∀i,i<=kind.length->zK kind i=j8 (fun l=>J3 l ((kind.take i).countP fun x=>decide (x.toNat=l))) us
 |0,_=>by
  show 1=_;exact (U5 (f:=fun l=>J3 l ((kind.take 0).countP fun x=>decide (x.toNat=l))) fun u _=>rfl).symm
 |i+1,h=>by
  have hi:i < kind.length:=by omega
  have e:kind[i]? =some kind[i]:=ds2 hi
  have eD:kind.getD i 0=kind[i]:=by rw[ds7,e];rfl
  have mem:kind[i]∈kind:=dw2 hi;have p1:=pos _ mem
  have et:kind.take (i+1)=kind.take i++[kind[i]]:=by rw[em2,e];rfl
  show zK kind i*(kind.getD i 0).toNat*((kind.take (i+1)).countP fun x=>decide (x=kind.getD i 0))=_;rw[eD,bz3 pos nd hu i (by omega),dx3]
  have cnt:((kind.take (i+1)).countP fun x=>decide (x=kind[i]))=((kind.take i).countP fun x=>decide (x.toNat=kind[i].toNat))+1:=by
    rw[et,ed1,ee4,if_pos (decide_eq_true rfl)]
    congr 1
    refine dz3 fun x hx=> ?_
    have:=pos x (dy5 hx);simp;constructor
    · intro h;rw[h]
    · intro h;omega
  rw[cnt];refine (bj0 (f:=fun l=>J3 l ((kind.take i).countP fun x=>decide (x.toNat=l))) nd (hu _ mem) ?_ fun u _ hne=> ?_).symm
  · show J3 _ ((kind.take (i+1)).countP fun x=>decide (x.toNat=kind[i].toNat))=_;rw[et,ed1,ee4,if_pos (decide_eq_true rfl)];show J3 _ _*_*_=_;rw[dx3]
  · show J3 _ ((kind.take (i+1)).countP fun x=>decide (x.toNat=u))=_;rw[et,ed1,ee4,if_neg (by simpa using fun h=>hne h.symm)];rfl
theorem bz4 {l:List Int}{i:Nat}(h:i < l.length):l.getD i 0=l[i]:=by
 rw[ds7,ds2 h];rfl
theorem cm0 {l:List Int}{i:Nat}(h:i < l.length):l.take (i+1)=l.take i++[l.getD i 0]:=by
 rw[em2,ds2 h,bz4 h];rfl
def ba6 (kind:List Int)(i:Nat):Nat:=(kind.take (i+1)).countP fun x=>decide (x=kind.getD i 0)
theorem da6 (kind:List Int)(i:Nat):zK kind (i+1)=zK kind i*(kind.getD i 0).toNat*ba6 kind i:=rfl
theorem bq6 {kind:List Int}(lo:∀x∈kind,1<=x)(hi:∀x∈kind,x<=40)(hl:kind.length<=40):∀i,i<=kind.length->0 < zK kind i/\zK kind i<=1600^i
 |0,_=>⟨eo2,ds4 _⟩
 |i+1,h=>by
  obtain ⟨a,b⟩:=bq6 lo hi hl i (by omega)
  have hi':i < kind.length:=by omega
  have m:kind.getD i 0∈kind:=by rw[bz4 hi'];exact dw2 hi'
  have m1:=lo _ m;have m2:=hi _ m
  have l1:1<=ba6 kind i:=by
    unfold ba6;rw[cm0 hi',ed1,ee4,if_pos (decide_eq_true rfl)];omega
  have l2:ba6 kind i<=40:=by
    unfold ba6;have:=eh4 (p:=fun x=>decide (x=kind.getD i 0)) (l:=kind.take (i+1));rw[du1] at this;omega
  rw[da6];refine ⟨ea3 (ea3 a (by omega)) (by omega),?_⟩;rw[ej6,dx3];refine ec7 b ?_;show _<=40*40;exact ec7 (by omega) l2
theorem da7 {k i:Nat}(h:i<=40)(hk:k<=1600^i):k < 2^9000:=by
 refine dw0 hk (dw0 (ei0 (by decide) h) ?_)
 decide+kernel
def C7 (kind:List Int):Nat:=E9 kind.sum.toNat/zK kind kind.length
end Mth
namespace L2
open PySem PySem.Spec PyProof.Rows
def cm1 (t:TA):TE:=X8 (fun xs H Q=>∃p lo hi,xs=[.ref p]/\H p=some (.rng lo hi)/\(-(2^62)<=lo/\lo < 2^62/\ -(2^62)<=hi/\hi < 2^62)/\(hi - lo).toNat<=2^20/\
 ∀l,H l=none->Q (.ref l) (c9 H l (.lst ((n6 lo (hi - lo).toNat).map V.int)))) (ay6 (X8 (fun xs H Q=>∃i j,xs=[.int i,.int j]/\∀p,H p=none->Q (.ref p) (c9 H p (.rng i j))) t) bn5)
theorem bw9 {X:Cx}{a b:Expr}{t:TA}{p p2 pos pos2:Pos}(hc:X.calm=true)(hm:X.mg "list"=none)(hm2:X.mg "range"=none)(ha:PA X [a,b] t)(hg:Gl X "list":=by rfl)(hg2:Gl X "range":=by rfl)
   (he:starEach [a,b] X.env=(false,eval a X.env)::starEach [b] X.env:=by rfl) (hpl:(backTo pos2 (starEach [b] X.env)).any (·.1)=false:=by rfl)
   (he2:starEach [.Call (.Name "range" p2) [a,b] [] pos2] X.env=(false,eval (.Call (.Name "range" p2) [a,b] [] pos2) X.env)::starEach [] X.env:=by rfl):
   PE X (.Call (.Name "list" p) [.Call (.Name "range" p2) [a,b] [] pos2] [] pos) (cm1 t):=
 M4 (am8 hc) hg hm aa4 (c5 (M4 bw3 hg2 hm2 at4 ha (by decide) (by decide) he hpl) c6 he2) (by decide) (by decide) he2 rfl
end L2
namespace TS
open PySem PyProof.Rows
section
variable (rk:Keyed->Nat)
def R (xs:Array Keyed)(i:Nat):Nat:=match xs[i]? with
 |some p=>rk p
 |none=>0
def Up (xs:Array Keyed)(lo hi:Nat):Prop:=∀i j,lo<=i->i<=j->j < hi->R rk xs i<=R rk xs j
def bd9 (xs:Array Keyed)(lo hi:Nat):Prop:=∀i j,lo<=i->i<=j->j < hi->R rk xs j<=R rk xs i
end
def A8 (xs ys:Array Keyed)(lo hi:Nat):Prop:=∀k,k < lo\/hi<=k->ys[k]? =xs[k]?
theorem A8.refl (xs:Array Keyed)(lo hi:Nat):A8 xs xs lo hi:=fun _ _=>rfl
theorem A8.trans {xs ys zs:Array Keyed}{lo hi:Nat}(h:A8 xs ys lo hi)(g:A8 ys zs lo hi):A8 xs zs lo hi:=fun k hk=>(g k hk).trans (h k hk)
theorem A8.wide {xs ys:Array Keyed}{lo hi lo' hi':Nat}(h:A8 xs ys lo hi)(h1:lo'<=lo)(h2:hi<=hi'):A8 xs ys lo' hi':=fun k hk=>h k (by omega)
section
variable {rk:Keyed->Nat}
theorem be0 {xs ys:Array Keyed}{i j:Nat}(h:xs[i]? =ys[j]?):R rk xs i=R rk ys j:=by unfold R;rw[h]
theorem A8.R {xs ys:Array Keyed}{lo hi k:Nat}(h:A8 xs ys lo hi)(hk:k < lo\/hi<=k):TS.R rk ys k=TS.R rk xs k:=be0 (h k hk)
theorem A8.up {xs ys:Array Keyed}{lo hi a b:Nat}(h:A8 xs ys lo hi)(u:Up rk xs a b)(hk:b<=lo\/hi<=a):Up rk ys a b:=fun i j h1 h2 h3=>by
 rw[h.R (by omega),h.R (by omega)];exact u i j h1 h2 h3
theorem bq7 {xs:Array Keyed}{src d:Nat}(hs:src < xs.size)(hd:d<=src)(k:Nat):
   R rk (bubble xs src d) k=if k=src - d then R rk xs src else if src - d < k/\k<=src then R rk xs (k - 1) else R rk xs k:=by
 have e:=getElem?_bubble hs d hd k
 split
 · rename_i h;rw[if_pos h] at e;exact be0 e
 · rename_i h;rw[if_neg h] at e
   split
   · rename_i h2;rw[if_pos h2] at e;exact be0 e
   · rename_i h2;rw[if_neg h2] at e;exact be0 e
theorem bx0 {xs:Array Keyed}{src d lo hi:Nat}(hs:src < xs.size)(hd:d<=src)(h1:lo<=src - d)(h2:src < hi):A8 xs (bubble xs src d) lo hi:=fun k hk=>by
 rw[getElem?_bubble hs d hd k,if_neg (by omega),if_neg (by omega)]
theorem av6 {xs:Array Keyed}{i j:Nat}(hj:j<=xs.size)(k:Nat):R rk (mirror xs i j ((j - i)/2)) k=if i<=k/\k < j then R rk xs (i+j - 1 - k) else R rk xs k:=by
 have e:=getElem?_mirror_all (i:=i) hj k
 split
 · rename_i h;rw[if_pos h] at e;exact be0 e
 · rename_i h;rw[if_neg h] at e;exact be0 e
theorem X4 {xs:Array Keyed}{i j lo hi:Nat}(hj:j<=xs.size)(h1:lo<=i)(h2:j<=hi):A8 xs (mirror xs i j ((j - i)/2)) lo hi:=fun k hk=>by
 rw[getElem?_mirror_all hj k,if_neg (by omega)]
theorem N4 {xs:Array Keyed}{i j:Nat}(hj:j<=xs.size)(h:∀k,i<=k->k < j->R rk xs k=R rk xs (j - 1))(k:Nat):R rk (mirror xs i j ((j - i)/2)) k=R rk xs k:=by
 rw[av6 hj]
 split
 · rw[h _ (by omega) (by omega),h k (by omega) (by omega)]
 · rfl
end
structure Bs (a0:Array Keyed)(κ:SortKind)(st:SortSt):Prop where
 perm:(arrOf st).Perm a0
 kind:kindOf st=κ
 ok:failedOf st=none
theorem Bs.size {a0:Array Keyed}{κ:SortKind}{st:SortSt}(h:Bs a0 κ st):(arrOf st).size=a0.size:=h.perm.size_eq
theorem Bs.set {a0:Array Keyed}{κ:SortKind}{st:SortSt}(h:Bs a0 κ st){xs:Array Keyed}(hp:xs.Perm (arrOf st)):Bs a0 κ (setArr st xs):=⟨hp.trans h.perm,h.kind,h.ok⟩
theorem Bs.mem {a0:Array Keyed}{κ:SortKind}{st:SortSt}(h:Bs a0 κ st){i:Nat}(hi:i < a0.size):∃p,(arrOf st)[i]? =some p/\p∈a0.toList:=by
 have hi':i < (arrOf st).size:=by rw[h.size];exact hi
 exact ⟨(arrOf st)[i],getElem?_pos _ i hi',(eb3.mp h.perm).mem_iff.mp (by simp)⟩
section
variable {prog:Program} {w:World} {A:Around} {E:Value->Shared->Prop} {s:Shared}
def Cm (prog:Program)(w:World)(A:Around)(s:Shared)(κ:SortKind)(rk:Keyed->Nat)(a0:Array Keyed):Prop:=
 ∀x∈a0.toList,∀y∈a0.toList,∀(Q:Bool->Shared->Prop) (E':Value->Shared->Prop),Q (decide (rk x < rk y)) s->wpAny (model prog w) A (keyLt' κ x.1 y.1) Q E' s
variable {rk:Keyed->Nat} {a0:Array Keyed} {κ:SortKind}
theorem ba7 {st:SortSt}{x y:Keyed}{Q:Option Bool->SortSt->Prop}(C:Cm prog w A s κ rk a0)(hk:kindOf st=κ)(hx:x∈a0.toList)(hy:y∈a0.toList)(h:Q (some (decide (rk x < rk y))) st):
   wpS (model prog w) A E s (lt' x y) Q st:=by
 rw[lt'_eq];refine wpS_bind (wpS_get ?_);rw[hk];exact wpS_bind (wpS_lift (wpAny_attempt (C x hx y hy _ _ ⟨rfl,wpS_pure h⟩)))
theorem ab2 {st:SortSt}{i j:Nat}{Q:Option Bool->SortSt->Prop}(C:Cm prog w A s κ rk a0)(B:Bs a0 κ st)(hi:i < a0.size)(hj:j < a0.size)(h:Q (some (decide (R rk (arrOf st) i < R rk (arrOf st) j))) st):
   wpS (model prog w) A E s (ltAt' i j) Q st:=by
 obtain ⟨x,ex,mx⟩:=B.mem hi;obtain ⟨y,ey,my⟩:=B.mem hj;rw[ltAt'_eq];refine wpS_bind (wpS_get ?_);show wpS _ _ _ _ (do let u <-elem' (arrOf st) i;let v <-elem' (arrOf st) j;lt' u v) Q st;rw[elem'_eq,elem'_eq,ex,ey];refine wpS_bind (wpS_pure (wpS_bind (wpS_pure (ba7 C B.kind mx my ?_))));unfold R at h;rw[ex,ey] at h;exact h
theorem ba8 {st:SortSt}{i j:Nat}{Q:Unit->SortSt->Prop}(h:Q () (setArr st (mirror (arrOf st) i j ((j - i)/2)))):wpS (model prog w) A E s (reverseSlice' i j) Q st:=by
 rw[reverseSlice'_eq];exact wpS_modify h
theorem dh2 {st:SortSt}{lo n ok:Nat}{Q:Bool->SortSt->Prop}(C:Cm prog w A s κ rk a0)(hn:lo+n<=a0.size)(hok:ok<=n)(B:Bs a0 κ st)(hs:Up rk (arrOf st) lo (lo+ok))
   (h:∀st',Bs a0 κ st'->Up rk (arrOf st') lo (lo+n)->A8 (arrOf st) (arrOf st') lo (lo+n)->pendingOf st'=pendingOf st->Q true st'):wpS (model prog w) A E s (binarySort' lo n ok) Q st:=by
 rw[binarySort'_eq]
 refine wpS_bind (wpS_mono (wpS_forRange (I:=fun k c t=>c=(none,())/\Bs a0 κ t/\Up rk (arrOf t) lo (lo+min k n)/\A8 (arrOf st) (arrOf t) lo (lo+n)/\pendingOf t=pendingOf st)
   (Q:=fun c t=>c=(none,())/\Bs a0 κ t/\Up rk (arrOf t) lo (lo+n)/\A8 (arrOf st) (arrOf t) lo (lo+n)/\pendingOf t=pendingOf st) ?step ?fin ?init) ?post)
 case post=>
   rintro c t ⟨rfl,B',u,k,p⟩;exact wpS_pure (h t B' u k p)
 case init=>
   refine ⟨rfl,B,fun i j h1 h2 h3=> ?_,A8.refl _ _ _,rfl⟩
   by_cases z:ok=0
   · have:i=j:=by omega
     rw[this];exact ds4 _
   · exact hs i j h1 h2 (by omega)
 case fin=>
   rintro c t ⟨hc,B',u,k,p⟩;refine ⟨hc,B',?_,k,p⟩
   rwa [show min (max (max ok 1) n) n=n by omega] at u
 case step=>
   rintro k c t h1 h2 ⟨rfl,B',u,kp,pe⟩;rw[show min k n=k by omega] at u
   refine wpS_bind (wpS_mono (wpS_forRange (I:=fun x c t'=>t'=t/\∃l r,c=(none,l,r)/\l<=r/\r<=k/\r - l<=k - x/\
       (∀i,i < l->R rk (arrOf t) (lo+i)<=R rk (arrOf t) (lo+k))/\(∀i,r<=i->i < k->R rk (arrOf t) (lo+k) < R rk (arrOf t) (lo+i)))
     (Q:=fun c t'=>t'=t/\∃l r,c=(none,l,r)/\l<=k/\(∀i,i < l->R rk (arrOf t) (lo+i)<=R rk (arrOf t) (lo+k))/\(∀i,l<=i->i < k->R rk (arrOf t) (lo+k) < R rk (arrOf t) (lo+i))) ?st2 ?fin2 ?init2) ?post2)
   case init2=>exact ⟨rfl,0,k,rfl,by omega,by omega,by omega,fun i hi=>by omega,fun i h1 h2=>by omega⟩
   case fin2=>
     rintro c t' ⟨rfl,l,r,rfl,a1,a2,a3,a4,a5⟩
     have:l=r:=by omega
     subst this;exact ⟨rfl,l,l,rfl,a2,a4,a5⟩
   case st2=>
     rintro x c t' _ hx ⟨rfl,l,r,rfl,a1,a2,a3,a4,a5⟩
     dsimp only
     by_cases z:l≥r
     · rw[if_pos z]
       have:l=r:=by omega
       subst this;exact wpS_pure ⟨rfl,l,l,rfl,a2,a4,a5⟩
     · rw[if_neg z];refine wpS_bind (ab2 C B' (by omega) (by omega) ?_)
       by_cases y:R rk (arrOf t') (lo+k) < R rk (arrOf t') (lo+(l+r)/2)
       · simp only[y,decide_true,if_true];refine wpS_pure ⟨rfl,l,(l+r)/2,rfl,by omega,by omega,by omega,a4,fun i b1 b2=> ?_⟩;have:=u (lo+(l+r)/2) (lo+i) (by omega) (by omega) (by omega);omega
       · simp only[y,decide_false,ea4,if_false];refine wpS_pure ⟨rfl,(l+r)/2+1,r,rfl,by omega,by omega,by omega,fun i b1=> ?_,a5⟩;have:=u (lo+i) (lo+(l+r)/2) (by omega) (by omega) (by omega);omega
   case post2=>
     rintro c t' ⟨rfl,l,r,rfl,a1,a2,a3⟩;show wpS _ _ _ _ (do moveDown' (lo+k) (lo+l);pure (ForInStep.yield (none,()))) _ _;rw[moveDown'_eq]
     have hz:lo+k < (arrOf t').size:=by rw[B'.size];omega
     refine wpS_bind (wpS_modify (wpS_pure ⟨rfl,B'.set (bubble_perm _ _ _),?_,kp.trans (bx0 hz (by omega) (by omega) (by omega)),pe⟩));rw[show min (k+1) n=k+1 by omega];intro i j b1 b2 b3;show R rk (bubble (arrOf t') (lo+k) (lo+k - (lo+l))) i<=R rk (bubble (arrOf t') (lo+k) (lo+k - (lo+l))) j
     have f1:∀i,lo<=i->i < lo+l->R rk (arrOf t') i<=R rk (arrOf t') (lo+k):=fun i c1 c2=>by have:=a2 (i - lo) (by omega);rwa [show lo+(i - lo)=i by omega] at this
     have f2:∀i,lo+l<=i->i < lo+k->R rk (arrOf t') (lo+k) < R rk (arrOf t') i:=fun i c1 c2=>by have:=a3 (i - lo) (by omega) (by omega);rwa [show lo+(i - lo)=i by omega] at this
     rw[bq7 hz (by omega),bq7 hz (by omega),show lo+k - (lo+k - (lo+l))=lo+l by omega]
     repeat' split
     all_goals first
       |(exfalso;omega)
       |exact ds4 _
       |exact f1 _ (by omega) (by omega)
       |exact dz1 (f2 _ (by omega) (by omega))
       |exact u _ _ (by omega) (by omega) (by omega)
end
end TS
namespace TS
open PySem PyProof.Rows
section
variable {prog:Program} {w:World} {A:Around} {E:Value->Shared->Prop} {s:Shared}
variable {rk:Keyed->Nat} {a0:Array Keyed} {κ:SortKind}
theorem cm2 {xs:Array Keyed}{lo x:Nat}(u:Up rk xs lo (lo+x))(x1:1<=x)(h:¬R rk xs (lo+x) < R rk xs (lo+x - 1)):Up rk xs lo (lo+(x+1)):=fun i j h1 h2 h3=>by
 by_cases hj:j < lo+x
 · exact u i j h1 h2 hj
 · have e:j=lo+x:=by omega
   subst e
   by_cases hi:i=lo+x
   · rw[hi];exact ds4 _
   · have:=u i (lo+x - 1) h1 (by omega) (by omega);omega
theorem ad1 {xs:Array Keyed}{lo x:Nat}(u:bd9 rk xs lo (lo+x))(x1:1<=x)(h:R rk xs (lo+x)<=R rk xs (lo+x - 1)):bd9 rk xs lo (lo+(x+1)):=fun i j h1 h2 h3=>by
 by_cases hj:j < lo+x
 · exact u i j h1 h2 hj
 · have e:j=lo+x:=by omega
   subst e
   by_cases hi:i=lo+x
   · rw[hi];exact ds4 _
   · have:=u i (lo+x - 1) h1 (by omega) (by omega);omega
def cs0 (a0:Array Keyed)(κ:SortKind)(rk:Keyed->Nat)(lo nrem:Nat)(st:SortSt)(r:Option Nat)(t:SortSt):Prop:=
 ∃m,r=some m/\Bs a0 κ t/\1<=m/\m<=nrem/\Up rk (arrOf t) lo (lo+m)/\A8 (arrOf st) (arrOf t) lo (lo+nrem)/\pendingOf t=pendingOf st
theorem dh3 {st:SortSt}{lo nrem:Nat}(C:Cm prog w A s κ rk a0)(hn:lo+nrem<=a0.size)(n1:1<=nrem)(B:Bs a0 κ st):wpS (model prog w) A E s (countRun' lo nrem) (cs0 a0 κ rk lo nrem st) st:=by
 rw[countRun'_eq]
 refine wpS_bind (wpS_mono (wpS_forRange (I:=fun x c t=>t=st/\c=(none,x)/\Up rk (arrOf st) lo (lo+x))
   (Q:=fun c t=>t=st/\∃n,c=(none,n)/\1<=n/\n<=nrem/\Up rk (arrOf st) lo (lo+n)/\(n=nrem\/R rk (arrOf st) (lo+n) < R rk (arrOf st) (lo+n - 1))) ?step ?fin
   ⟨rfl,rfl,fun i j h1 h2 h3=>by rw[show i=j by omega];exact ds4 _⟩) ?post)
 case fin=>
   rintro c t ⟨rfl,rfl,u⟩;rw[show max 1 nrem=nrem by omega] at u ⊢;exact ⟨rfl,nrem,rfl,n1,ds4 _,u,.inl rfl⟩
 case step=>
   rintro x c t x1 xn ⟨rfl,rfl,u⟩
   dsimp only
   refine wpS_bind (ab2 C B (by omega) (by omega) ?_)
   by_cases y:R rk (arrOf t) (lo+x) < R rk (arrOf t) (lo+x - 1)
   · simp only[y,decide_true,if_true];exact wpS_pure ⟨rfl,x,rfl,x1,by omega,u,.inr y⟩
   · simp only[y,decide_false,ea4,if_false];exact wpS_pure ⟨rfl,rfl,cm2 u x1 y⟩
 case post=>
   rintro c t ⟨rfl,n,rfl,m1,mn,u,hor⟩
   dsimp only
   by_cases z:n=nrem
   · rw[if_pos (by simpa using z)];exact wpS_pure ⟨n,rfl,B,m1,mn,u,A8.refl _ _ _,rfl⟩
   · rw[if_neg (by simpa using z)];have lt:=hor.resolve_left z
     suffices D:∀t',Bs a0 κ t'->bd9 rk (arrOf t') lo (lo+(n+1))->A8 (arrOf t) (arrOf t') lo (lo+nrem)->pendingOf t'=pendingOf t->wpS (model prog w) A E s _ (cs0 a0 κ rk lo nrem t) t' by
       by_cases g:n > 1
       · rw[if_pos g];refine wpS_bind (ab2 C B (by omega) (by omega) ?_)
         by_cases y:R rk (arrOf t) lo < R rk (arrOf t) (lo+n - 1)
         · simp only[y,decide_true,if_true];exact wpS_pure ⟨n,rfl,B,m1,mn,u,A8.refl _ _ _,rfl⟩
         · simp only[y,decide_false,ea4,if_false]
           have hz:lo+n<=(arrOf t).size:=by rw[B.size];omega
           have all:∀k,lo<=k->k < lo+n->R rk (arrOf t) k=R rk (arrOf t) (lo+n - 1):=fun k h1 h2=>by
             have a1:=u lo k (by omega) h1 h2;have a2:=u k (lo+n - 1) h1 (by omega) (by omega);omega
           refine wpS_bind (ba8 (D _ (B.set (mirror_perm _ _ _ _)) ?_ (X4 hz (ds4 _) (by omega)) rfl));refine ad1 (fun i j h1 h2 h3=> ?_) m1 ?_
           · show R rk (mirror (arrOf t) _ _ _) j<=R rk (mirror (arrOf t) _ _ _) i;rw[N4 hz all,N4 hz all,all i h1 (by omega),all j (by omega) h3];exact ds4 _
           · show R rk (mirror (arrOf t) _ _ _) _<=R rk (mirror (arrOf t) _ _ _) _;rw[N4 hz all,N4 hz all];omega
       · rw[if_neg g];refine D _ B (ad1 (fun i j h1 h2 h3=>by rw[show i=j by omega];exact ds4 _) m1 (by omega)) (A8.refl _ _ _) rfl
     intro t1 B1 d1 k1 p1;refine wpS_bind (wpS_lift (wpAny_rule ⟨rfl,?_⟩))
     refine wpS_bind (wpS_mono (wpS_forRange (I:=fun x c t'=>∃q,c=(none,x,q)/\Bs a0 κ t'/\bd9 rk (arrOf t') lo (lo+x)/\q+1<=x/\(∀i,lo+x - (q+1)<=i->i < lo+x->R rk (arrOf t') i=R rk (arrOf t') (lo+x - 1))/\A8 (arrOf t) (arrOf t') lo (lo+nrem)/\pendingOf t'=pendingOf t)
       (Q:=fun c t'=>∃x q,c=(none,x,q)/\n+1<=x/\x<=nrem/\Bs a0 κ t'/\bd9 rk (arrOf t') lo (lo+x)/\q+1<=x/\(∀i,lo+x - (q+1)<=i->i < lo+x->R rk (arrOf t') i=R rk (arrOf t') (lo+x - 1))/\A8 (arrOf t) (arrOf t') lo (lo+nrem)/\pendingOf t'=pendingOf t) ?step2 ?fin2
       ⟨0,rfl,B1,d1,by omega,(fun i h1 h2=>by rw[show i=lo+(n+1) - 1 by omega]),k1,p1⟩) ?post2)
     case fin2=>
       rintro c t' ⟨q,rfl,B',d,q1,al,k,p⟩;rw[show max (n+1) nrem=nrem by omega] at d q1 al ⊢;exact ⟨nrem,q,rfl,by omega,ds4 _,B',d,q1,al,k,p⟩
     case step2=>
       rintro x c t' x1 xn ⟨q,rfl,B',d,q1,al,k,p⟩
       dsimp only
       have hz:lo+x<=(arrOf t').size:=by rw[B'.size];omega
       refine wpS_bind (ab2 C B' (by omega) (by omega) ?_)
       by_cases y:R rk (arrOf t') (lo+x) < R rk (arrOf t') (lo+x - 1)
       · simp only[y,decide_true,if_true]
         by_cases g:q > 0
         · rw[if_pos g];refine wpS_bind (ba8 (wpS_pure ⟨0,rfl,B'.set (mirror_perm _ _ _ _),?_,by omega,(fun i h1 h2=>by rw[show i=lo+(x+1) - 1 by omega]),k.trans (X4 hz (by omega) (by omega)),p⟩));refine ad1 (fun i j h1 h2 h3=> ?_) (by omega) ?_
           · show R rk (mirror (arrOf t') _ _ _) j<=R rk (mirror (arrOf t') _ _ _) i;rw[N4 hz al,N4 hz al];exact d i j h1 h2 h3
           · show R rk (mirror (arrOf t') _ _ _) _<=R rk (mirror (arrOf t') _ _ _) _;rw[N4 hz al,N4 hz al];omega
         · rw[if_neg g];exact wpS_pure ⟨0,rfl,B',ad1 d (by omega) (by omega),by omega,(fun i h1 h2=>by rw[show i=lo+(x+1) - 1 by omega]),k,p⟩
       · simp only[y,decide_false,ea4,if_false];refine wpS_bind (ab2 C B' (by omega) (by omega) ?_)
         by_cases g:R rk (arrOf t') (lo+x - 1) < R rk (arrOf t') (lo+x)
         · simp only[g,decide_true,if_true];exact wpS_pure ⟨x,q,rfl,x1,by omega,B',d,q1,al,k,p⟩
         · simp only[g,decide_false,ea4,if_false]
           have e:R rk (arrOf t') (lo+x)=R rk (arrOf t') (lo+x - 1):=by omega
           refine wpS_pure ⟨q+1,rfl,B',ad1 d (by omega) (by omega),by omega,fun i h1 h2=> ?_,k,p⟩;rw[show lo+(x+1) - 1=lo+x by omega]
           by_cases hi:i=lo+x
           · rw[hi]
           · rw[e];exact al i (by omega) (by omega)
     case post2=>
       rintro c t2 ⟨x,q,rfl,x1,xn,B2,d,q1,al,k2,p2⟩
       dsimp only
       have hz:lo+x<=(arrOf t2).size:=by rw[B2.size];omega
       suffices T:∀t3,Bs a0 κ t3->bd9 rk (arrOf t3) lo (lo+x)->A8 (arrOf t) (arrOf t3) lo (lo+nrem)->pendingOf t3=pendingOf t->wpS (model prog w) A E s _ (cs0 a0 κ rk lo nrem t) t3 by
         by_cases g:q > 0
         · rw[if_pos g];refine wpS_bind (ba8 (T _ (B2.set (mirror_perm _ _ _ _)) (fun i j h1 h2 h3=> ?_) (k2.trans (X4 hz (by omega) (by omega))) p2));show R rk (mirror (arrOf t2) _ _ _) j<=R rk (mirror (arrOf t2) _ _ _) i;rw[N4 hz al,N4 hz al];exact d i j h1 h2 h3
         · rw[if_neg g];exact T _ B2 d k2 p2
       intro t3 B3 d3 k3 p3
       have hz3:lo+x<=(arrOf t3).size:=by rw[B3.size];omega
       refine wpS_bind (ba8 ?_);have B4:=B3.set (mirror_perm (arrOf t3) lo (lo+x) ((lo+x - lo)/2))
       have u4:Up rk (arrOf (setArr t3 (mirror (arrOf t3) lo (lo+x) ((lo+x - lo)/2)))) lo (lo+x):=fun i j h1 h2 h3=>by
         show R rk (mirror (arrOf t3) _ _ _) i<=R rk (mirror (arrOf t3) _ _ _) j;rw[av6 hz3,av6 hz3,if_pos (by omega),if_pos (by omega)];exact d3 _ _ (by omega) (by omega) (by omega)
       have k4:A8 (arrOf t) (arrOf (setArr t3 (mirror (arrOf t3) lo (lo+x) ((lo+x - lo)/2)))) lo (lo+nrem):=k3.trans (X4 hz3 (ds4 _) (by omega));have p4:pendingOf (setArr t3 (mirror (arrOf t3) lo (lo+x) ((lo+x - lo)/2)))=pendingOf t:=p3;generalize setArr t3 (mirror (arrOf t3) lo (lo+x) ((lo+x - lo)/2))=t4 at B4 u4 k4 p4 ⊢;refine wpS_bind (wpS_mono (wpS_forRange (I:=fun y c t'=>t'=t4/\c=(none,y)/\Up rk (arrOf t4) lo (lo+y)) (Q:=fun c t'=>t'=t4/\∃y,c=(none,y)/\x<=y/\y<=nrem/\Up rk (arrOf t4) lo (lo+y)) ?step3 ?fin3 ⟨rfl,rfl,u4⟩) ?post3)
       case fin3=>
         rintro c t' ⟨rfl,rfl,v⟩;rw[show max x nrem=nrem by omega] at v ⊢;exact ⟨rfl,nrem,rfl,xn,ds4 _,v⟩
       case step3=>
         rintro y c t' y1 yn ⟨rfl,rfl,v⟩
         dsimp only
         refine wpS_bind (ab2 C B4 (by omega) (by omega) ?_)
         by_cases g:R rk (arrOf t') (lo+y) < R rk (arrOf t') (lo+y - 1)
         · simp only[g,decide_true,if_true];exact wpS_pure ⟨rfl,y,rfl,y1,by omega,v⟩
         · simp only[g,decide_false,ea4,if_false];exact wpS_pure ⟨rfl,rfl,cm2 v (by omega) g⟩
       case post3=>
         rintro c t' ⟨rfl,y,rfl,y1,yn,v⟩;exact wpS_pure ⟨y,rfl,B4,by omega,yn,v,k4,p4⟩
end
end TS
namespace TS
open PySem PyProof.Rows
def gal:Bool->Keyed->Array Keyed->Nat->Nat->Nat->StateT SortSt Sem (Option Nat):=sortPriv%PySem.Builtin.gallop
section
variable {prog:Program} {w:World} {A:Around} {E:Value->Shared->Prop} {s:Shared}
variable {rk:Keyed->Nat} {a0:Array Keyed} {κ:SortKind}
def B5 (rk:Keyed->Nat)(left:Bool)(key:Keyed)(arr:Array Keyed)(base i:Nat):Bool:=if left then decide (R rk arr (base+i) < rk key) else !decide (rk key < R rk arr (base+i))
theorem O5 {left:Bool}{key:Keyed}{arr:Array Keyed}{base n i j:Nat}(u:Up rk arr base (base+n))(h1:i<=j)(h2:j < n)(h:B5 rk left key arr base j=true):B5 rk left key arr base i=true:=by
 have:=u (base+i) (base+j) (by omega) (by omega) (by omega);unfold B5 at h ⊢;cases left
 · simp at h ⊢;omega
 · simp at h ⊢;omega
theorem A2 {arr:Array Keyed}{i:Nat}{st:SortSt}{Q:Keyed->SortSt->Prop}{p:Keyed}(h:arr[i]? =some p)(q:Q p st):wpS (model prog w) A E s (elem' arr i) Q st:=by
 rw[elem'_eq,h];exact wpS_pure q
def In0 (a0 arr:Array Keyed):Prop:=∀x∈arr.toList,x∈a0.toList
theorem In0.at {arr:Array Keyed}(h:In0 a0 arr){i:Nat}(hi:i < arr.size):∃p,arr[i]? =some p/\p∈a0.toList:=⟨arr[i],getElem?_pos _ i hi,h _ (by simp)⟩
theorem D8 {arr:Array Keyed}{i:Nat}{p:Keyed}(h:arr[i]? =some p):R rk arr i=rk p:=by unfold R;rw[h]
theorem ai6 {st:SortSt}{left:Bool}{key:Keyed}{arr:Array Keyed}{base n hint:Nat}{Q:Option Nat->SortSt->Prop}(C:Cm prog w A s κ rk a0)(hk:kindOf st=κ)(ia:In0 a0 arr)(ik:key∈a0.toList)(hz:base+n<=arr.size)(hh:hint < n)
   (u:Up rk arr base (base+n)) (h:∀k,k<=n->(∀i,i < k->B5 rk left key arr base i=true)->(∀i,k<=i->i < n->B5 rk left key arr base i=false)->Q (some k) st):wpS (model prog w) A E s (gal left key arr base n hint) Q st:=by
 have by0:∀(i:Nat) (Q':Option Bool->SortSt->Prop),i < n->Q' (some (B5 rk left key arr base i)) st->wpS (model prog w) A E s (do let x <-elem' arr (base+i);if left then lt' x key else return (<-lt' key x).map (!·)) Q' st:=by
   intro i Q' hi q;obtain ⟨p,e,m⟩:=ia.at (show base+i < arr.size by omega);refine wpS_bind (A2 e ?_);unfold B5 at q;rw[D8 e] at q
   cases left with
   |true=>
    rw[if_pos rfl] at q ⊢;exact ba7 C hk m ik q
   |false=>
    rw[if_neg (by decide)] at q ⊢;exact wpS_bind (ba7 C hk ik m (wpS_pure q))
 refine wpS_bind (by0 hint _ hh ?_)
 cases hr:B5 rk left key arr base hint with
 |true=>
  dsimp only
  rw[if_pos rfl]
  refine wpS_bind (wpS_mono (wpS_forRange (I:=fun x c t=>t=st/\∃l o,c=(none,l,o)/\l < o/\l < n - hint/\x+1<=o/\B5 rk left key arr base (hint+l)=true)
    (Q:=fun c t=>t=st/\∃l o,c=(none,l,o)/\l < o/\l < n - hint/\B5 rk left key arr base (hint+l)=true/\(n - hint<=o\/B5 rk left key arr base (hint+o)=false)) ?step ?fin ⟨rfl,0,1,rfl,by omega,by omega,by omega,hr⟩) ?post)
  case fin=>
    rintro c t ⟨rfl,l,o,rfl,a1,a2,a3,a4⟩;exact ⟨rfl,l,o,rfl,a1,a2,a4,.inl (by omega)⟩
  case step=>
    rintro x c t _ xn ⟨rfl,l,o,rfl,a1,a2,a3,a4⟩
    dsimp only
    by_cases z:o≥n - hint
    · rw[if_pos z];exact wpS_pure ⟨rfl,l,o,rfl,a1,a2,a4,.inl z⟩
    · rw[if_neg z];refine wpS_bind (by0 (hint+o) _ (by omega) ?_)
      cases y:B5 rk left key arr base (hint+o) with
      |true=>
       dsimp only
       rw[if_neg (by decide)];exact wpS_pure ⟨rfl,_,_,rfl,by omega,by omega,by omega,y⟩
      |false=>
       dsimp only
       rw[if_pos (by decide)];exact wpS_pure ⟨rfl,l,o,rfl,a1,a2,a4,.inr y⟩
  case post=>
    rintro c t ⟨ht,l,o,rfl,a1,a2,a3,a4⟩;obtain rfl:=ht.symm
    dsimp only
    have le1:hint+l+1<=hint+min o (n - hint):=by omega
    have le2:hint+min o (n - hint)<=n:=by omega
    have b1:∀i,i < hint+l+1->B5 rk left key arr base i=true:=fun i h1=>O5 u (show i<=hint+l by omega) (by omega) a3
    have b2:∀i,hint+min o (n - hint)<=i->i < n->B5 rk left key arr base i=false:=fun i h1 h2=>by
      rcases a4 with a4|a4
      · omega
      · cases y':B5 rk left key arr base i with
        |false=>rfl
        |true=>rw[O5 u (show hint+o<=i by omega) h2 y'] at a4;cases a4
    refine wpS_bind (wpS_mono (wpS_forRange (I:=fun x c t=>t=st/\∃lo hi,c=(none,lo,hi)/\lo<=hi/\hi<=n/\hi - lo<=n - x/\(∀i,i < lo->B5 rk left key arr base i=true)/\(∀i,hi<=i->i < n->B5 rk left key arr base i=false))
      (Q:=fun c t=>t=st/\∃lo hi,c=(none,lo,hi)/\hi<=n/\(∀i,i < hi->B5 rk left key arr base i=true)/\(∀i,hi<=i->i < n->B5 rk left key arr base i=false)) ?stepB ?finB ⟨rfl,_,_,rfl,le1,le2,by omega,b1,b2⟩) ?postB)
    case finB=>
      rintro c t ⟨rfl,lo,hi,rfl,a1,a2,a3,a4,a5⟩;rw[show lo=hi by omega] at a4;exact ⟨rfl,lo,hi,rfl,a2,a4,a5⟩
    case stepB=>
      rintro x c t _ xn ⟨rfl,lo,hi,rfl,a1,a2,a3,a4,a5⟩
      dsimp only
      by_cases z:lo≥hi
      · rw[if_pos z];rw[show lo=hi by omega] at a4;exact wpS_pure ⟨rfl,lo,hi,rfl,a2,a4,a5⟩
      · rw[if_neg z];refine wpS_bind (by0 (lo+(hi - lo)/2) _ (by omega) ?_)
        cases y:B5 rk left key arr base (lo+(hi - lo)/2) with
        |true=>
         dsimp only
         rw[if_pos rfl];exact wpS_pure ⟨rfl,_,_,rfl,by omega,a2,by omega,fun i h1=>O5 u (show i<=lo+(hi - lo)/2 by omega) (by omega) y,a5⟩
        |false=>
         dsimp only
         rw[if_neg (by decide)];refine wpS_pure ⟨rfl,_,_,rfl,by omega,by omega,by omega,a4,fun i h1 h2=> ?_⟩
         cases y':B5 rk left key arr base i with
         |false=>rfl
         |true=>rw[O5 u h1 h2 y'] at y;cases y
    case postB=>
      rintro c t ⟨rfl,lo,hi,rfl,a1,a2,a3⟩;exact wpS_pure (h hi a1 a2 a3)
 |false=>
  dsimp only
  rw[if_neg (by decide)]
  refine wpS_bind (wpS_mono (wpS_forRange (I:=fun x c t=>t=st/\∃l o,c=(none,l,o)/\l < o/\l < hint+1/\x+1<=o/\B5 rk left key arr base (hint - l)=false)
    (Q:=fun c t=>t=st/\∃l o,c=(none,l,o)/\l < o/\l < hint+1/\B5 rk left key arr base (hint - l)=false/\(hint+1<=o\/B5 rk left key arr base (hint - o)=true)) ?step ?fin ⟨rfl,0,1,rfl,by omega,by omega,by omega,hr⟩) ?post)
  case fin=>
    rintro c t ⟨rfl,l,o,rfl,a1,a2,a3,a4⟩;exact ⟨rfl,l,o,rfl,a1,a2,a4,.inl (by omega)⟩
  case step=>
    rintro x c t _ xn ⟨rfl,l,o,rfl,a1,a2,a3,a4⟩
    dsimp only
    by_cases z:o≥hint+1
    · rw[if_pos z];exact wpS_pure ⟨rfl,l,o,rfl,a1,a2,a4,.inl z⟩
    · rw[if_neg z];refine wpS_bind (by0 (hint - o) _ (by omega) ?_)
      cases y:B5 rk left key arr base (hint - o) with
      |false=>
       dsimp only
       rw[if_neg (by decide)];exact wpS_pure ⟨rfl,_,_,rfl,by omega,by omega,by omega,y⟩
      |true=>
       dsimp only
       rw[if_pos rfl];exact wpS_pure ⟨rfl,l,o,rfl,a1,a2,a4,.inr y⟩
  case post=>
    rintro c t ⟨ht,l,o,rfl,a1,a2,a3,a4⟩;obtain rfl:=ht.symm
    dsimp only
    have le1:hint+1 - min o (hint+1)<=hint - l:=by omega
    have le2:hint - l<=n:=by omega
    have b1:∀i,i < hint+1 - min o (hint+1)->B5 rk left key arr base i=true:=fun i h1=>by
      rcases a4 with a4|a4
      · omega
      · exact O5 u (show i<=hint - o by omega) (by omega) a4
    have b2:∀i,hint - l<=i->i < n->B5 rk left key arr base i=false:=fun i h1 h2=>by
      cases y':B5 rk left key arr base i with
      |false=>rfl
      |true=>rw[O5 u h1 h2 y'] at a3;cases a3
    refine wpS_bind (wpS_mono (wpS_forRange (I:=fun x c t=>t=st/\∃lo hi,c=(none,lo,hi)/\lo<=hi/\hi<=n/\hi - lo<=n - x/\(∀i,i < lo->B5 rk left key arr base i=true)/\(∀i,hi<=i->i < n->B5 rk left key arr base i=false))
      (Q:=fun c t=>t=st/\∃lo hi,c=(none,lo,hi)/\hi<=n/\(∀i,i < hi->B5 rk left key arr base i=true)/\(∀i,hi<=i->i < n->B5 rk left key arr base i=false)) ?stepB ?finB ⟨rfl,_,_,rfl,le1,le2,by omega,b1,b2⟩) ?postB)
    case finB=>
      rintro c t ⟨rfl,lo,hi,rfl,a1,a2,a3,a4,a5⟩;rw[show lo=hi by omega] at a4;exact ⟨rfl,lo,hi,rfl,a2,a4,a5⟩
    case stepB=>
      rintro x c t _ xn ⟨rfl,lo,hi,rfl,a1,a2,a3,a4,a5⟩
      dsimp only
      by_cases z:lo≥hi
      · rw[if_pos z];rw[show lo=hi by omega] at a4;exact wpS_pure ⟨rfl,lo,hi,rfl,a2,a4,a5⟩
      · rw[if_neg z];refine wpS_bind (by0 (lo+(hi - lo)/2) _ (by omega) ?_)
        cases y:B5 rk left key arr base (lo+(hi - lo)/2) with
        |true=>
         dsimp only
         rw[if_pos rfl];exact wpS_pure ⟨rfl,_,_,rfl,by omega,a2,by omega,fun i h1=>O5 u (show i<=lo+(hi - lo)/2 by omega) (by omega) y,a5⟩
        |false=>
         dsimp only
         rw[if_neg (by decide)];refine wpS_pure ⟨rfl,_,_,rfl,by omega,by omega,by omega,a4,fun i h1 h2=> ?_⟩
         cases y':B5 rk left key arr base i with
         |false=>rfl
         |true=>rw[O5 u h1 h2 y'] at y;cases y
    case postB=>
      rintro c t ⟨rfl,lo,hi,rfl,a1,a2,a3⟩;exact wpS_pure (h hi a1 a2 a3)
end
end TS
namespace TS
open PySem PyProof.Rows
section
variable {rk:Keyed->Nat}
def Le (rk:Keyed->Nat)(x y:Keyed):Prop:=rk x<=rk y
section
variable {le:Keyed->Keyed->Prop}
def D9 (le:Keyed->Keyed->Prop)(l:List Keyed):Prop:=l.Pairwise le
structure Mi (le:Keyed->Keyed->Prop)(a b out:List Keyed)(i j:Nat):Prop where
 pm:out.Perm (a.take i++b.take j)
 up:D9 le out
 ba:∀x∈out,∀y∈a.drop i,le x y
 bb:∀x∈out,∀y∈b.drop j,le x y
theorem T6 {l m:List Keyed}:D9 le (l++m)↔D9 le l/\D9 le m/\∀x∈l,∀y∈m,le x y:=List.pairwise_append
theorem ad2 {l:List Keyed}(h:D9 le l)(i:Nat):D9 le (l.drop i):=List.Pairwise.sublist (List.drop_sublist i l) h
theorem ar3 {l:List Keyed}{i:Nat}{x:Keyed}(h:l[i]? =some x):l.drop i=x::l.drop (i+1):=by
 obtain ⟨hi,e⟩:=ds3.mp h;rw[ea5 hi,e]
theorem be1 {l:List Keyed}{i:Nat}{x:Keyed}(h:l[i]? =some x):l.take (i+1)=l.take i++[x]:=by rw[em2,h];rfl
theorem W6 (rf:∀x,le x x){l:List Keyed}(s:D9 le l){i:Nat}{x:Keyed}(h:l[i]? =some x):∀y∈l.drop i,le x y:=fun y hy=>by
 have:=ad2 s i;rw[ar3 h] at this hy
 rcases dt7.mp hy with e|e
 · rw[e];exact rf _
 · exact (em4.mp this).1 y e
theorem Mi.pushA (rf:∀x,le x x){a b out:List Keyed}{i j:Nat}{x:Keyed}(h:Mi le a b out i j)(sa:D9 le a)(hx:a[i]? =some x)(hb:∀y∈b.drop j,le x y):Mi le a b (out++[x]) (i+1) j:=by
 have da:=ar3 hx
 have mx:x∈a.drop i:=by rw[da];exact ds5
 refine ⟨?_,?_,?_,?_⟩
 · rw[be1 hx,du2];refine (h.pm.append_right [x]).trans ?_;rw[du2];exact List.Perm.append_left _ ea1
 · refine T6.mpr ⟨h.up,eg2 _ _,fun y hy z hz=> ?_⟩;rw[dt3.mp hz];exact h.ba y hy x mx
 · intro y hy z hz
   have hz':z∈a.drop i:=by rw[da];exact ds6 _ hz
   rcases dt4.mp hy with e|e
   · exact h.ba y e z hz'
   · rw[dt3.mp e];exact W6 rf sa hx z hz'
 · intro y hy z hz
   rcases dt4.mp hy with e|e
   · exact h.bb y e z hz
   · rw[dt3.mp e];exact hb z hz
theorem Mi.pushB (rf:∀x,le x x){a b out:List Keyed}{i j:Nat}{x:Keyed}(h:Mi le a b out i j)(sb:D9 le b)(hx:b[j]? =some x)(ha:∀y∈a.drop i,le x y):Mi le a b (out++[x]) i (j+1):=by
 have db:=ar3 hx
 have mx:x∈b.drop j:=by rw[db];exact ds5
 refine ⟨?_,?_,?_,?_⟩
 · rw[be1 hx,<-du2];exact h.pm.append_right [x]
 · refine T6.mpr ⟨h.up,eg2 _ _,fun y hy z hz=> ?_⟩;rw[dt3.mp hz];exact h.bb y hy x mx
 · intro y hy z hz
   rcases dt4.mp hy with e|e
   · exact h.ba y e z hz
   · rw[dt3.mp e];exact ha z hz
 · intro y hy z hz
   have hz':z∈b.drop j:=by rw[db];exact ds6 _ hz
   rcases dt4.mp hy with e|e
   · exact h.bb y e z hz'
   · rw[dt3.mp e];exact W6 rf sb hx z hz'
theorem bq8 {l:List Keyed}{i k:Nat}{x:Keyed}(h:l[i+k]? =some x):(l.take (i+(k+1))).drop i=(l.take (i+k)).drop i++[x]:=by
 have hl:=(ds3.mp h).1;rw[show i+(k+1)=(i+k)+1 by omega,be1 h,List.drop_append_of_le_length (by rw[du1];omega)]
theorem Mi.manyA (rf:∀x,le x x){a b out:List Keyed}{i j:Nat}(h:Mi le a b out i j)(sa:D9 le a):∀k,i+k<=a.length->(∀n x,n < k->a[i+n]? =some x->∀y∈b.drop j,le x y)->Mi le a b (out++(a.take (i+k)).drop i) (i+k) j
 |0,_,_=>by rw[ea9,ed9 (by rw[du1];omega),du8];exact h
 |k+1,hl,hc=>by
  have e:a[i+k]? =some a[i+k]:=ds2 (by omega);rw[bq8 e,<-du2,show i+(k+1)=i+k+1 by omega];exact (Mi.manyA rf h sa k (by omega) fun n x hn=>hc n x (by omega)).pushA rf sa e (hc k _ (by omega) e)
theorem Mi.manyB (rf:∀x,le x x){a b out:List Keyed}{i j:Nat}(h:Mi le a b out i j)(sb:D9 le b):∀k,j+k<=b.length->(∀n x,n < k->b[j+n]? =some x->∀y∈a.drop i,le x y)->Mi le a b (out++(b.take (j+k)).drop j) i (j+k)
 |0,_,_=>by rw[ea9,ed9 (by rw[du1];omega),du8];exact h
 |k+1,hl,hc=>by
  have e:b[j+k]? =some b[j+k]:=ds2 (by omega);rw[bq8 e,<-du2,show j+(k+1)=j+k+1 by omega];exact (Mi.manyB rf h sb k (by omega) fun n x hn=>hc n x (by omega)).pushB rf sb e (hc k _ (by omega) e)
def Mg (le:Keyed->Keyed->Prop)(a b r:List Keyed):Prop:=r.Perm (a++b)/\D9 le r
theorem ao2 (a b out:List Keyed)(i j:Nat)(h:out.Perm (a.take i++b.take j)):(out++a.drop i++b.drop j).Perm (a++b):=by
 have e1:=(h.append_right (a.drop i)).append_right (b.drop j);refine e1.trans ?_
 have e2:((a.take i++b.take j)++a.drop i).Perm (a++b.take j):=by
   rw[du2];refine (List.Perm.append_left _ ea1).trans ?_;rw[<-du2,dx2]
 refine (e2.append_right _).trans ?_;rw[du2,dx2]
theorem Mi.doneB {a b out:List Keyed}{i j:Nat}(h:Mi le a b out i j)(sa:D9 le a)(hj:b.length<=j):Mg le a b (out++a.drop i++b.drop j):=by
 refine ⟨ao2 a b out i j h.pm,?_⟩;rw[ed9 hj,du8];exact T6.mpr ⟨h.up,ad2 sa i,h.ba⟩
theorem Mi.doneA {a b out:List Keyed}{i j:Nat}(h:Mi le a b out i j)(sb:D9 le b)(hi:a.length<=i):Mg le a b (out++a.drop i++b.drop j):=by
 refine ⟨ao2 a b out i j h.pm,?_⟩;rw[ed9 hi,du8];exact T6.mpr ⟨h.up,ad2 sb j,h.bb⟩
theorem Mi.last {a b out:List Keyed}{i j:Nat}(h:Mi le a b out i j)(sa:D9 le a)(sb:D9 le b)(B6:∀x∈b.drop j,∀y∈a.drop i,le x y):Mg le a b (out++b.drop j++a.drop i):=by
 constructor
 · refine List.Perm.trans ?_ (ao2 a b out i j h.pm);rw[du2,du2];exact List.Perm.append_left _ ea1
 · rw[du2];refine T6.mpr ⟨h.up,T6.mpr ⟨ad2 sb j,ad2 sa i,B6⟩,fun x hx y hy=> ?_⟩
   rcases dt4.mp hy with e|e
   · exact h.bb x hx y e
   · exact h.ba x hx y e
end
theorem do3 {xs:Array Keyed}(u:Up rk xs 0 xs.size):D9 (Le rk) xs.toList:=by
 refine dv6.mpr fun i j hi hj hij=> ?_
 have:=u i j (du3 _) (by omega) (by simpa using hj);rw[D8 (p:=xs.toList[i]) (by simp),D8 (p:=xs.toList[j]) (by simp)] at this;exact this
theorem af4 {xs:Array Keyed}(h:D9 (Le rk) xs.toList):Up rk xs 0 xs.size:=fun i j _ hij hj=>by
 rcases ei9 hij with z|z
 · have:=dv6.mp h i j (by simp;omega) (by simpa using hj) z;rw[D8 (i:=i) (p:=xs.toList[i]'(by simp;omega)) (by simp),D8 (i:=j) (p:=xs.toList[j]'(by simpa using hj)) (by simp)];exact this
 · rw[z];exact ds4 _
end
end TS
namespace TS
open PySem PyProof.Rows
def mLo:Array Keyed->Array Keyed->StateT SortSt Sem (Array Keyed):=sortPriv%PySem.Builtin.mergeLo
section
variable {prog:Program} {w:World} {A:Around} {E:Value->Shared->Prop} {s:Shared}
variable {rk:Keyed->Nat} {a0:Array Keyed} {κ:SortKind}
structure G7 (st t:SortSt):Prop where
 arr:arrOf t=arrOf st
 pend:pendingOf t=pendingOf st
 kind:kindOf t=kindOf st
 ok:failedOf t=failedOf st
theorem G7.refl (st:SortSt):G7 st st:=⟨rfl,rfl,rfl,rfl⟩
def MQ (rk:Keyed->Nat)(a b:Array Keyed)(st:SortSt)(r:Array Keyed)(t:SortSt):Prop:=Mg (Le rk) a.toList b.toList r.toList/\G7 st t
theorem hv {β γ:Type}{F:γ}{K:γ->StateT SortSt Sem β}{Q:β->SortSt->Prop}{st:SortSt}(h:wpS (model prog w) A E s (K F) Q st):wpS (model prog w) A E s (have x:=F;K x) Q st:=h
theorem A9 {β:Type}{c:Prop}[Decidable c]{m n:StateT SortSt Sem β}{Q:β->SortSt->Prop}{st:SortSt}(h1:c->wpS (model prog w) A E s m Q st)(h2:¬c->wpS (model prog w) A E s n Q st):wpS (model prog w) A E s (if c then m else n) Q st:=by
 split
 · exact h1 ‹_›
 · exact h2 ‹_›
theorem O6 {a b:Nat}(h:(a==b)=true):a=b:=by simpa using h
theorem R1 {a b:Nat}(h:¬(a==b)=true):¬a=b:=by simpa using h
theorem W7 (xs:Array Keyed)(i:Nat):(xs.extract i).toList=xs.toList.drop i:=by rw[Array.toList_extract,em8,eb4 (by simp)]
theorem Q5 (xs:Array Keyed)(i j:Nat):(xs.extract i j).toList=(xs.toList.take j).drop i:=by rw[Array.toList_extract,em8,List.drop_take]
theorem G4 {xs:Array Keyed}{i:Nat}{x:Keyed}(h:xs[i]? =some x):xs.toList[i]? =some x:=by rw[<-h];simp
theorem dh4 {st:SortSt}{g:Nat}{Q:Unit->SortSt->Prop}(h:Q () (SortSt.mk' (kindOf st) (arrOf st) (pendingOf st) g (failedOf st))):wpS (model prog w) A E s ((sortPriv%PySem.Builtin.setMinGallop) g) Q st:=wpS_modify h
theorem G7.gal {st t:SortSt}(h:G7 st t)(g:Nat):G7 st (SortSt.mk' (kindOf t) (arrOf t) (pendingOf t) g (failedOf t)):=⟨h.arr,h.pend,h.kind,h.ok⟩
theorem cs1 {st0 st:SortSt}{g:Nat}{Q:Unit->SortSt->Prop}(l:G7 st0 st)(h:∀t,G7 st0 t->Q () t):wpS (model prog w) A E s ((sortPriv%PySem.Builtin.setMinGallop) g) Q st:=dh4 (h _ (l.gal g))
theorem dh5 {st:SortSt}{a b:Array Keyed}(C:Cm prog w A s κ rk a0)(hk:kindOf st=κ)(ia:In0 a0 a)(ib:In0 a0 b)(a1:1<=a.size)(b1:1<=b.size)(sa:D9 (Le rk) a.toList)(sb:D9 (Le rk) b.toList)
   (first:∀x,b[0]? =some x->∀y∈a.toList,Le rk x y) (last:∀x∈b.toList,∀y,a[a.size - 1]? =some y->Le rk x y):wpS (model prog w) A E s (mLo a b) (MQ rk a b st) st:=by
 have la:a.toList.length=a.size:=du5;have lb:b.toList.length=b.size:=du5;have ua:=af4 sa;have ub:=af4 sb
 have doneB:∀out i j t,Mi (Le rk) a.toList b.toList (dz7 out) i j->G7 st t->b.size<=j->MQ rk a b st (out++a.extract i++b.extract j) t:=fun out i j t m l hj=>by
   refine ⟨?_,l⟩;rw[dy1,dy1,W7,W7];exact m.doneB sa (by omega)
 have doneA:∀out i j t,Mi (Le rk) a.toList b.toList (dz7 out) i j->G7 st t->a.size<=i->MQ rk a b st (out++a.extract i++b.extract j) t:=fun out i j t m l hi=>by
   refine ⟨?_,l⟩;rw[dy1,dy1,W7,W7];exact m.doneA sb (by omega)
 have lastA:∀out i j t,Mi (Le rk) a.toList b.toList (dz7 out) i j->G7 st t->i+1=a.size->MQ rk a b st (out++b.extract j++a.extract i) t:=fun out i j t m l hi=>by
   refine ⟨?_,l⟩;rw[dy1,dy1,W7,W7]
   refine m.last sa sb fun x hx y hy=>last x (ec3 hx) y ?_
   have e:a.toList[i]? =some a.toList[i]:=ds2 (by omega);rw[ar3 e,ed9 (by omega)] at hy;rw[dt3.mp hy,show a.size - 1=i by omega,<-dy2];exact e
 have stepB:∀out i j x y,Mi (Le rk) a.toList b.toList (dz7 out) i j->a[i]? =some x->b[j]? =some y->rk y<=rk x->Mi (Le rk) a.toList b.toList (dz7 (out.push y)) i (j+1):=fun out i j x y m hx hy le=>by
   rw[ef6]
   exact m.pushB (fun _=>ds4 _) sb (G4 hy) fun z hz=>dt6 le (W6 (fun _=>ds4 _) sa (G4 hx) z hz)
 have stepA:∀out i j x y,Mi (Le rk) a.toList b.toList (dz7 out) i j->a[i]? =some x->b[j]? =some y->rk x<=rk y->Mi (Le rk) a.toList b.toList (dz7 (out.push x)) (i+1) j:=fun out i j x y m hx hy le=>by
   rw[ef6]
   exact m.pushA (fun _=>ds4 _) sa (G4 hx) fun z hz=>dt6 le (W6 (fun _=>ds4 _) sb (G4 hy) z hz)
 refine wpS_bind (wpS_lift (wpAny_rule ⟨rfl,?_⟩));obtain ⟨b0,eb0,mb0⟩:=ib.at (show 0 < b.size by omega);refine wpS_bind (A2 eb0 ?_)
 have m0:Mi (Le rk) a.toList b.toList (dz7 #[b0]) 0 1:=by
   have e:b.toList[0]? =some b0:=G4 eb0;have n:Mi (Le rk) a.toList b.toList [] 0 0:=⟨List.Perm.refl _,List.Pairwise.nil,(fun x h=>by cases h),(fun x h=>by cases h)⟩
   exact n.pushB (fun _=>ds4 _) sb e fun y hy=>first b0 eb0 y hy
 refine hv (hv (hv ?_))
 by_cases z1:1=b.size
 · rw[if_pos (by simpa using z1)];exact wpS_pure (doneB _ _ _ _ m0 (G7.refl st) (by omega))
 rw[if_neg (by simpa using z1)]
 by_cases z2:0+1=a.size
 · rw[if_pos (by simpa using z2)];exact wpS_pure (lastA _ _ _ _ m0 (G7.refl st) z2)
 rw[if_neg (by simpa using z2)];refine wpS_bind (wpS_get ?_)
 refine wpS_bind (wpS_mono (wpS_forRange (I:=fun x c t=>∃out i j g,c=(none,out,i,j,g)/\Mi (Le rk) a.toList b.toList (dz7 out) i j/\i+1 < a.size/\j < b.size/\x<=i+j/\G7 st t)
   (Q:=fun c t=>∃r,c.1=some r/\MQ rk a b st r t) ?step ?fin ⟨_,_,_,_,rfl,m0,by omega,by omega,by omega,G7.refl st⟩) ?post)
 case post=>
   rintro c t ⟨r,hr,q⟩;obtain ⟨c1,c2⟩:=c;cases hr;exact wpS_pure q
 case fin=>
   rintro c t ⟨out,i,j,g,rfl,m,h1,h2,h3,l⟩;omega
 case step=>
   rintro x c t _ xn ⟨out,i,j,g,rfl,m,h1,h2,h3,l⟩
   refine wpS_bind (wpS_mono (wpS_forRange (I:=fun y c t'=>∃out' i' j' p q,c=(none,out',i',j',p,q)/\t'=t/\Mi (Le rk) a.toList b.toList (dz7 out') i' j'/\i'+1 < a.size/\j' < b.size/\i'+j'=i+j+y)
     (Q:=fun c t'=>(∃r,c.1=some r/\MQ rk a b st r t')\/(∃out' i' j' p q,c=(none,out',i',j',p,q)/\t'=t/\Mi (Le rk) a.toList b.toList (dz7 out') i' j'/\i'+1 < a.size/\j' < b.size/\x+1<=i'+j')) ?step2 ?fin2 ⟨_,_,_,_,_,rfl,rfl,m,h1,h2,rfl⟩) ?post2)
   case fin2=>
     rintro c t' ⟨out',i',j',p,q,rfl,rfl,m',k1,k2,k3⟩;omega
   case step2=>
     rintro y c t' _ yn ⟨out',i',j',p,q,rfl,rfl,m',k1,k2,k3⟩;obtain ⟨u,eu,mu⟩:=ia.at (show i' < a.size by omega);obtain ⟨v,ev,mv⟩:=ib.at k2;refine wpS_bind (A2 ev (wpS_bind (A2 eu (wpS_bind (ba7 C (l.kind.trans hk) mv mu ?_)))))
     by_cases d:rk v < rk u
     · rw[decide_eq_true d]
       dsimp only
       rw[if_pos rfl];have m2:=stepB out' i' j' u v m' eu ev (dz1 d);refine wpS_bind (A2 ev ?_)
       by_cases z:j'+1=b.size
       · rw[if_pos (by simpa using z)];exact wpS_pure (.inl ⟨_,rfl,doneB _ _ _ _ m2 l (by omega)⟩)
       · rw[if_neg (by simpa using z)]
         split
         · exact wpS_pure (.inr ⟨_,_,_,_,_,rfl,rfl,m2,k1,by omega,by omega⟩)
         · exact wpS_pure ⟨_,_,_,_,_,rfl,rfl,m2,k1,by omega,by omega⟩
     · rw[decide_eq_false d]
       dsimp only
       rw[if_neg (by decide)];have m2:=stepA out' i' j' u v m' eu ev (by omega);refine wpS_bind (A2 eu ?_)
       by_cases z:i'+1+1=a.size
       · rw[if_pos (by simpa using z)];exact wpS_pure (.inl ⟨_,rfl,lastA _ _ _ _ m2 l z⟩)
       · rw[if_neg (by simpa using z)]
         split
         · exact wpS_pure (.inr ⟨_,_,_,_,_,rfl,rfl,m2,by omega,k2,by omega⟩)
         · exact wpS_pure ⟨_,_,_,_,_,rfl,rfl,m2,by omega,k2,by omega⟩
   case post2=>
     rintro c t' (⟨r,hr,q⟩|⟨out',i',j',p,q,rfl,rfl,m',k1,k2,k3⟩)
     · obtain ⟨c1,c2⟩:=c;cases hr;exact wpS_pure ⟨r,rfl,q⟩
     · refine wpS_bind (wpS_lift (wpAny_rule ⟨rfl,?_⟩))
       refine wpS_bind (wpS_mono (wpS_forRange (I:=fun y c t2=>∃out2 i2 j2 g2 p q,c=(none,out2,i2,j2,g2,p,q)/\G7 st t2/\Mi (Le rk) a.toList b.toList (dz7 out2) i2 j2/\i2+1 < a.size/\j2 < b.size/\x+1<=i2+j2)
         (Q:=fun c t2=>(∃r,c.1=some r/\MQ rk a b st r t2)\/(∃out2 i2 j2 g2 p q,c=(none,out2,i2,j2,g2,p,q)/\G7 st t2/\Mi (Le rk) a.toList b.toList (dz7 out2) i2 j2/\i2+1 < a.size/\j2 < b.size/\x+1<=i2+j2)) ?step3 ?fin3 ⟨_,_,_,_,_,_,rfl,l,m',k1,k2,k3⟩) ?post3)
       case fin3=>
         rintro c t2 h;exact .inr h
       case post3=>
         rintro c t2 (⟨r,hr,q⟩|⟨out2,i2,j2,g2,p,q,rfl,l2,m2,n1,n2,n3⟩)
         · obtain ⟨c1,c2⟩:=c;cases hr;exact wpS_pure ⟨r,rfl,q⟩
         · refine wpS_bind (dh4 ?_);exact wpS_pure ⟨_,_,_,_,rfl,m2,n1,n2,n3,l2.gal _⟩
       case step3=>
         rintro y c t2 _ yn ⟨out2,i2,j2,g2,p,q,rfl,l2,m2,n1,n2,n3⟩;obtain ⟨v,ev,mv⟩:=ib.at n2;refine A9 (fun _=> ?_) (fun _=> ?_)
         all_goals
           refine wpS_bind (cs1 l2 fun t3 l3=> ?_);refine wpS_bind (A2 ev ?_);refine wpS_bind (ai6 (base:=i2) (n:=a.size - i2) (hint:=0) C (l3.kind.trans hk) ia mv (show i2+(a.size - i2)<=a.size by omega) (by omega) (fun x y h1 h2 h3=>ua x y (by omega) h2 (by omega)) fun k kn ka kb=> ?_)
           have mA:∀k',k'<=k->Mi (Le rk) a.toList b.toList (dz7 (out2++a.extract i2 (i2+k'))) (i2+k') j2:=fun k' hk'=>by
             rw[dy1,Q5]
             refine m2.manyA (fun _=>ds4 _) sa k' (by omega) fun n x hn hx z hz=> ?_
             have h:=ka n (by omega);unfold B5 at h;rw[if_neg (by decide),D8 (p:=x) (by rw[<-dy2];exact hx)] at h
             have hle:rk x<=rk v:=by simpa using h
             exact dt6 hle (W6 (fun _=>ds4 _) sb (G4 ev) z hz)
           have gB:i2+k < a.size->rk v < R rk a (i2+k):=fun h=>by
             have h:=kb k (ds4 _) (by omega);unfold B5 at h;rw[if_neg (by decide)] at h
             simpa using h
           have m3:=mA k (ds4 _);refine A9 (fun kz=> ?_) (fun kz=> ?_);refine A9 (fun z=>wpS_pure (.inl ⟨_,rfl,lastA _ _ _ _ m3 l3 (O6 z)⟩)) (fun z1=> ?_);refine A9 (fun z=>wpS_pure (.inl ⟨_,rfl,doneA _ _ _ _ m3 l3 (eh8 (O6 z).symm)⟩)) (fun z2=> ?_);have z1:¬i2+k+1=a.size:=R1 z1;have z2:¬i2+k=a.size:=R1 z2
           have f1:i2+k+1 < a.size:=by omega
           have f2:x+1<=i2+k+j2:=by omega
           have f3:=gB (by omega);generalize out2++a.extract i2 (i2+k)=out3 at m3 ⊢;generalize i2+k=i3 at m3 f1 f2 f3 ⊢
           rotate_left
           have k0:k=0:=by omega
           subst k0
           have e0:out2++a.extract i2 (i2+0)=out2:=by simp<;>omega
           rw[e0,ea9] at m3
           have f1:i2+1 < a.size:=by omega
           have f2:x+1<=i2+j2:=by omega
           have f3:=gB (by omega);rw[ea9] at f3;clear e0;generalize out2=out3 at m3 ⊢;generalize i2=i3 at m3 f1 f2 f3 ⊢
           rotate_left
           all_goals
             obtain ⟨u3,eu3,mu3⟩:=ia.at (show i3 < a.size by omega);rw[D8 eu3] at f3;refine wpS_bind (A2 ev ?_);have m4:=stepB out3 i3 j2 u3 v m3 eu3 ev (dz1 f3);refine A9 (fun z=>wpS_pure (.inl ⟨_,rfl,doneB _ _ _ _ m4 l3 (eh8 (O6 z).symm)⟩)) (fun z3=> ?_);have z3:¬j2+1=b.size:=R1 z3;refine wpS_bind (A2 eu3 ?_);refine wpS_bind (ai6 (base:=j2+1) (n:=b.size - (j2+1)) (hint:=0) C (l3.kind.trans hk) ib mu3 (show j2+1+(b.size - (j2+1))<=b.size by omega) (by omega) (fun x y h1 h2 h3=>ub x y (by omega) h2 (by omega)) fun k' kn' ka' kb'=> ?_)
             have m5:Mi (Le rk) a.toList b.toList (dz7 (out3.push v++b.extract (j2+1) (j2+1+k'))) i3 (j2+1+k'):=by
               rw[dy1,Q5]
               refine m4.manyB (fun _=>ds4 _) sb k' (by omega) fun n x hn hx z hz=> ?_
               have h:=ka' n hn;unfold B5 at h;rw[if_pos rfl,D8 (p:=x) (by rw[<-dy2];exact hx)] at h
               have hle:rk x < rk u3:=by simpa using h
               exact dt6 (dz1 hle) (W6 (fun _=>ds4 _) sa (G4 eu3) z hz)
             have gA:j2+1+k' < b.size->rk u3<=R rk b (j2+1+k'):=fun h=>by
               have h:=kb' k' (ds4 _) (by omega);unfold B5 at h;rw[if_pos rfl] at h
               simpa using h
             refine A9 (fun kz'=> ?_) (fun kz'=> ?_);refine A9 (fun z=>wpS_pure (.inl ⟨_,rfl,doneB _ _ _ _ m5 l3 (eh8 (O6 z).symm)⟩)) (fun z4=> ?_);have z4:¬j2+1+k'=b.size:=R1 z4
             have f4:j2+1+k' < b.size:=by omega
             have f5:x+1<=i3+(j2+1+k'):=by omega
             have f6:=gA f4;generalize out3.push v++b.extract (j2+1) (j2+1+k')=out4 at m5 ⊢;generalize j2+1+k'=j4 at m5 f4 f5 f6 ⊢
             rotate_left
             have k0:k'=0:=by omega
             subst k0
             have e0:out3.push v++b.extract (j2+1) (j2+1+0)=out3.push v:=by simp<;>omega
             rw[e0,ea9] at m5
             have f4:j2+1 < b.size:=by omega
             have f5:x+1<=i3+(j2+1):=by omega
             have f6:=gA (by omega);rw[ea9] at f6;clear e0;generalize out3.push v=out4 at m5 ⊢;generalize j2+1=j4 at m5 f4 f5 f6 ⊢
             rotate_left
             all_goals
               obtain ⟨v4,ev4,mv4⟩:=ib.at f4;rw[D8 ev4] at f6;have m6:=stepA out4 i3 j4 u3 v4 m5 eu3 ev4 f6;refine wpS_bind (A2 eu3 ?_);refine A9 (fun z=>wpS_pure (.inl ⟨_,rfl,lastA _ _ _ _ m6 l3 (O6 z)⟩)) (fun z5=> ?_);have z5:¬i3+1+1=a.size:=R1 z5;refine A9 (fun _=> ?_) (fun _=> ?_)
               · exact wpS_pure (.inr ⟨out4.push u3,i3+1,j4,_,_,_,rfl,l3,m6,by omega,f4,by omega⟩)
               · exact wpS_pure ⟨out4.push u3,i3+1,j4,_,_,_,rfl,l3,m6,by omega,f4,by omega⟩
end
end TS
namespace TS
open PySem PyProof.Rows
def mHi:Array Keyed->Array Keyed->StateT SortSt Sem (Array Keyed):=sortPriv%PySem.Builtin.mergeHi
def Ge (rk:Keyed->Nat)(x y:Keyed):Prop:=rk y<=rk x
theorem T7 {rk:Keyed->Nat}{l:List Keyed}(h:D9 (Le rk) l):D9 (Ge rk) l.reverse:=ee5.mpr h
theorem cm3 {rk:Keyed->Nat}{a b r:List Keyed}(h:Mg (Ge rk) b.reverse a.reverse r.reverse):Mg (Le rk) a b r:=by
 obtain ⟨p,u⟩:=h;refine ⟨?_,ee5.mp u⟩
 have e:b.reverse++a.reverse=(a++b).reverse:=by rw[eg0]
 rw[e] at p;exact (eh5 r).symm.trans (p.trans (eh5 _))
theorem J5 {l:List Keyed}{n:Nat}(h:n<=l.length):l.reverse.drop (l.length - n)=(l.take n).reverse:=by
 rw[List.drop_reverse];congr 2;omega
theorem bz5 {l:List Keyed}{n:Nat}{x:Keyed}(h1:1<=n)(h:l[n - 1]? =some x):l.reverse[l.length - n]? =some x:=by
 have hl:=(ds3.mp h).1;rw[ek7 (by omega),<-h]
 congr 1
 omega
theorem bz6 {l:List Keyed}{m n:Nat}(h1:m<=n)(h:n<=l.length):(l.reverse.take (l.length - n+(n - m))).drop (l.length - n)=((l.take n).drop m).reverse:=by
 rw[List.drop_take,J5 h,Nat.add_sub_cancel_left,List.take_reverse,du1]
 congr 2
 omega
theorem ai7 {rk:Keyed->Nat}{l:List Keyed}{n:Nat}{x:Keyed}(s:D9 (Le rk) l)(h1:1<=n)(h:l[n - 1]? =some x):∀y∈l.take n,rk y<=rk x:=fun y hy=>by
 obtain ⟨hl,e⟩:=ds3.mp h;obtain ⟨i,hi⟩:=dv7.mp hy;have hil:=(ds3.mp hi).1;rw[du1] at hil;rw[dz8 (by omega),ds2 (by omega)] at hi;have ey:=Option.some.inj hi
 rcases ei9 (show i<=n - 1 by omega) with z|z
 · have:=dv6.mp s i (n - 1) (by omega) hl z;rw[ey,e] at this;exact this
 · subst z;rw[<-ey,e];exact ds4 _
section
variable {prog:Program} {w:World} {A:Around} {E:Value->Shared->Prop} {s:Shared}
variable {rk:Keyed->Nat} {a0:Array Keyed} {κ:SortKind}
def Mh (rk:Keyed->Nat)(a b out:Array Keyed)(na nb:Nat):Prop:=na<=a.size/\nb<=b.size/\Mi (Ge rk) b.toList.reverse a.toList.reverse out.toList (b.size - nb) (a.size - na)
theorem Mh.pushB {a b out:Array Keyed}{na nb:Nat}{x:Keyed}(h:Mh rk a b out na nb)(sb:D9 (Le rk) b.toList)(n1:1<=nb)(hx:b[nb - 1]? =some x)(ha:∀y∈a.toList.take na,rk y<=rk x):Mh rk a b (out.push x) na (nb - 1):=by
 obtain ⟨h1,h2,m⟩:=h;refine ⟨h1,by omega,?_⟩;have lb:b.toList.length=b.size:=du5;have la:a.toList.length=a.size:=du5;rw[ef6,show b.size - (nb - 1)=b.size - nb+1 by omega]
 refine m.pushA (fun _=>ds4 _) (T7 sb) ?_ fun y hy=>ha y ?_
 · rw[<-lb];exact bz5 n1 (G4 hx)
 · rw[<-la,J5 (by omega)] at hy;exact eg1.mp hy
theorem Mh.pushA {a b out:Array Keyed}{na nb:Nat}{x:Keyed}(h:Mh rk a b out na nb)(sa:D9 (Le rk) a.toList)(n1:1<=na)(hx:a[na - 1]? =some x)(hb:∀y∈b.toList.take nb,rk y<=rk x):Mh rk a b (out.push x) (na - 1) nb:=by
 obtain ⟨h1,h2,m⟩:=h;refine ⟨by omega,h2,?_⟩;have lb:b.toList.length=b.size:=du5;have la:a.toList.length=a.size:=du5;rw[ef6,show a.size - (na - 1)=a.size - na+1 by omega]
 refine m.pushB (fun _=>ds4 _) (T7 sa) ?_ fun y hy=>hb y ?_
 · rw[<-la];exact bz5 n1 (G4 hx)
 · rw[<-lb,J5 (by omega)] at hy;exact eg1.mp hy
theorem Mh.manyA {a b out:Array Keyed}{na nb m:Nat}(h:Mh rk a b out na nb)(sa:D9 (Le rk) a.toList)(hm:m<=na)(hc:∀n x,m<=n->n < na->a[n]? =some x->∀y∈b.toList.take nb,rk y<=rk x):Mh rk a b (out++(a.extract m na).reverse) m nb:=by
 obtain ⟨h1,h2,mi⟩:=h;refine ⟨by omega,h2,?_⟩;have lb:b.toList.length=b.size:=du5;have la:a.toList.length=a.size:=du5
 have:=mi.manyB (fun _=>ds4 _) (T7 sa) (na - m) (by rw[ei5];omega) fun n x hn hx y hy=>hc (na - 1 - n) x (by omega) (by omega) ?_ y ?_
 · rw[<-la,bz6 hm (by omega),<-Q5,la,show a.size - na+(na - m)=a.size - m by omega] at this;rw[dy1,ed3];exact this
 · rw[ek7 (by omega)] at hx;rw[<-dy2,<-hx]
   congr 1
   omega
 · rw[<-lb,J5 (by omega)] at hy;exact eg1.mp hy
theorem Mh.manyB {a b out:Array Keyed}{na nb m:Nat}(h:Mh rk a b out na nb)(sb:D9 (Le rk) b.toList)(hm:m<=nb)(hc:∀n x,m<=n->n < nb->b[n]? =some x->∀y∈a.toList.take na,rk y<=rk x):Mh rk a b (out++(b.extract m nb).reverse) na m:=by
 obtain ⟨h1,h2,mi⟩:=h;refine ⟨h1,by omega,?_⟩;have lb:b.toList.length=b.size:=du5;have la:a.toList.length=a.size:=du5
 have:=mi.manyA (fun _=>ds4 _) (T7 sb) (nb - m) (by rw[ei5];omega) fun n x hn hx y hy=>hc (nb - 1 - n) x (by omega) (by omega) ?_ y ?_
 · rw[<-lb,bz6 hm (by omega),<-Q5,lb,show b.size - nb+(nb - m)=b.size - m by omega] at this;rw[dy1,ed3];exact this
 · rw[ek7 (by omega)] at hx;rw[<-dy2,<-hx]
   congr 1
   omega
 · rw[<-la,J5 (by omega)] at hy;exact eg1.mp hy
theorem ak4 (xs:Array Keyed)(j:Nat):(xs.extract 0 j).toList=xs.toList.take j:=by rw[Q5,eo3]
theorem Mh.done {a b out:Array Keyed}{na nb:Nat}(h:Mh rk a b out na nb)(sa:D9 (Le rk) a.toList)(sb:D9 (Le rk) b.toList)(z:na=0\/nb=0):Mg (Le rk) a.toList b.toList (a.extract 0 na++b.extract 0 nb++out.reverse).toList:=by
 obtain ⟨h1,h2,m⟩:=h;have lb:b.toList.length=b.size:=du5;have la:a.toList.length=a.size:=du5;refine cm3 ?_
 have e:(a.extract 0 na++b.extract 0 nb++out.reverse).toList.reverse=out.toList++b.toList.reverse.drop (b.size - nb)++a.toList.reverse.drop (a.size - na):=by
   rw[dy1,dy1,ed3,ak4,ak4,eg0,eg0,List.reverse_reverse,<-la,<-lb,J5 (by omega),J5 (by omega),du2]
 rw[e]
 rcases z with z|z
 · exact m.doneB (T7 sb) (by rw[ei5];omega)
 · exact m.doneA (T7 sa) (by rw[ei5];omega)
theorem Mh.first {a b out:Array Keyed}{na nb:Nat}(h:Mh rk a b out na nb)(sa:D9 (Le rk) a.toList)(sb:D9 (Le rk) b.toList)(lo:∀x∈a.toList.take na,∀y∈b.toList.take nb,rk y<=rk x):Mg (Le rk) a.toList b.toList (b.extract 0 nb++a.extract 0 na++out.reverse).toList:=by
 obtain ⟨h1,h2,m⟩:=h;have lb:b.toList.length=b.size:=du5;have la:a.toList.length=a.size:=du5;refine cm3 ?_
 have e:(b.extract 0 nb++a.extract 0 na++out.reverse).toList.reverse=out.toList++a.toList.reverse.drop (a.size - na)++b.toList.reverse.drop (b.size - nb):=by
   rw[dy1,dy1,ed3,ak4,ak4,eg0,eg0,List.reverse_reverse,<-la,<-lb,J5 (by omega),J5 (by omega),du2]
 rw[e]
 refine m.last (T7 sb) (T7 sa) fun x hx y hy=> ?_
 rw[<-la,J5 (by omega)] at hx;rw[<-lb,J5 (by omega)] at hy;exact lo x (eg1.mp hx) y (eg1.mp hy)
theorem dh6 {st:SortSt}{a b:Array Keyed}(C:Cm prog w A s κ rk a0)(hk:kindOf st=κ)(ia:In0 a0 a)(ib:In0 a0 b)(a1:1<=a.size)(b1:1<=b.size)(sa:D9 (Le rk) a.toList)(sb:D9 (Le rk) b.toList)
   (first:∀x,b[0]? =some x->∀y∈a.toList,Le rk x y) (last:∀x∈b.toList,∀y,a[a.size - 1]? =some y->Le rk x y):wpS (model prog w) A E s (mHi a b) (MQ rk a b st) st:=by
 have la:a.toList.length=a.size:=du5;have lb:b.toList.length=b.size:=du5;have ua:=af4 sa;have ub:=af4 sb;refine wpS_bind (wpS_lift (wpAny_rule ⟨rfl,?_⟩));obtain ⟨x0,ex0,mx0⟩:=ia.at (show a.size - 1 < a.size by omega);refine wpS_bind (A2 ex0 ?_)
 have doneM:∀out na nb t,Mh rk a b out na nb->G7 st t->na=0\/nb=0->MQ rk a b st (a.extract 0 na++b.extract 0 nb++Array.reverse out) t:=fun out na nb t m l z=>⟨m.done sa sb z,l⟩
 have firstM:∀out na nb t,Mh rk a b out na nb->G7 st t->nb=1->MQ rk a b st (b.extract 0 nb++a.extract 0 na++Array.reverse out) t:=fun out na nb t m l z=>by
   refine ⟨m.first sa sb fun x hx y hy=> ?_,l⟩;subst z;obtain ⟨b0,eb0,mb0⟩:=ib.at (show 0 < b.size by omega);have:=ai7 sb (ds4 1) (G4 eb0) y hy;exact dt6 this (first b0 eb0 x (dy5 hx))
 have stepA:∀out na nb x y,Mh rk a b out na nb->1<=na->1<=nb->a[na - 1]? =some x->b[nb - 1]? =some y->rk y<=rk x->Mh rk a b (out.push x) (na - 1) nb:=fun out na nb x y m h1 h2 hx hy le=>
   m.pushA sa h1 hx fun z hz=>dt6 (ai7 sb h2 (G4 hy) z hz) le
 have stepB:∀out na nb x y,Mh rk a b out na nb->1<=na->1<=nb->a[na - 1]? =some x->b[nb - 1]? =some y->rk x<=rk y->Mh rk a b (out.push y) na (nb - 1):=fun out na nb x y m h1 h2 hx hy le=>
   m.pushB sb h2 hy fun z hz=>dt6 (ai7 sa h1 (G4 hx) z hz) le
 have m0:Mh rk a b #[x0] (a.size - 1) b.size:=by
   have n:Mh rk a b #[] a.size b.size:=⟨ds4 _,ds4 _,by rw[ej5,ej5];exact ⟨List.Perm.refl _,List.Pairwise.nil,(fun x h=>by cases h),(fun x h=>by cases h)⟩⟩
   exact n.pushA sa a1 ex0 fun y hy=>last y (dy5 hy) x0 ex0
 refine A9 (fun z=>wpS_pure (doneM _ _ _ _ m0 (G7.refl st) (.inl (O6 z)))) (fun z1=> ?_);have z1:¬a.size - 1=0:=R1 z1;refine A9 (fun z=>wpS_pure (firstM _ _ _ _ m0 (G7.refl st) (O6 z))) (fun z2=> ?_);have z2:¬b.size=1:=R1 z2;refine wpS_bind (wpS_get ?_)
 refine wpS_bind (wpS_mono (wpS_forRange (I:=fun x c t=>∃na nb out g,c=(none,na,nb,out,g)/\Mh rk a b out na nb/\1<=na/\2<=nb/\x+na+nb<=a.size+b.size/\G7 st t)
   (Q:=fun c t=>∃r,c.1=some r/\MQ rk a b st r t) ?step ?fin ⟨_,_,_,_,rfl,m0,by omega,by omega,by omega,G7.refl st⟩) ?post)
 case post=>
   rintro c t ⟨r,hr,q⟩;obtain ⟨c1,c2⟩:=c;cases hr;exact wpS_pure q
 case fin=>
   rintro c t ⟨na,nb,out,g,rfl,m,h1,h2,h3,l⟩;omega
 case step=>
   rintro x c t _ xn ⟨na,nb,out,g,rfl,m,h1,h2,h3,l⟩
   refine wpS_bind (wpS_mono (wpS_forRange (I:=fun y c t'=>∃na' nb' out' p q,c=(none,na',nb',out',p,q)/\t'=t/\Mh rk a b out' na' nb'/\1<=na'/\2<=nb'/\na'+nb'+y=na+nb)
     (Q:=fun c t'=>(∃r,c.1=some r/\MQ rk a b st r t')\/(∃na' nb' out' p q,c=(none,na',nb',out',p,q)/\t'=t/\Mh rk a b out' na' nb'/\1<=na'/\2<=nb'/\x+1+na'+nb'<=a.size+b.size)) ?step2 ?fin2 ⟨_,_,_,_,_,rfl,rfl,m,h1,h2,rfl⟩) ?post2)
   case fin2=>
     rintro c t' ⟨na',nb',out',p,q,rfl,rfl,m',k1,k2,k3⟩;omega
   case step2=>
     rintro y c t' _ yn ⟨na',nb',out',p,q,rfl,rfl,m',k1,k2,k3⟩;obtain ⟨u,eu,mu⟩:=ia.at (show na' - 1 < a.size by have:=m'.1;omega);obtain ⟨v,ev,mv⟩:=ib.at (show nb' - 1 < b.size by have:=m'.2.1;omega);refine wpS_bind (A2 ev (wpS_bind (A2 eu (wpS_bind (ba7 C (l.kind.trans hk) mv mu ?_)))))
     by_cases d:rk v < rk u
     · rw[decide_eq_true d];refine A9 (fun _=> ?_) (fun h=>absurd rfl h);have m2:=stepA out' na' nb' u v m' k1 (by omega) eu ev (dz1 d);refine wpS_bind (A2 eu ?_);refine A9 (fun z=>wpS_pure (.inl ⟨_,rfl,doneM _ _ _ _ m2 l (.inl (O6 z))⟩)) (fun z=> ?_);have z:¬na' - 1=0:=R1 z;refine A9 (fun _=> ?_) (fun _=> ?_)
       · exact wpS_pure (.inr ⟨na' - 1,nb',out'.push u,_,_,rfl,rfl,m2,by omega,k2,by omega⟩)
       · exact wpS_pure ⟨na' - 1,nb',out'.push u,_,_,rfl,rfl,m2,by omega,k2,by omega⟩
     · rw[decide_eq_false d];refine A9 (fun h=>absurd h (by decide)) (fun _=> ?_);have m2:=stepB out' na' nb' u v m' k1 (by omega) eu ev (by omega);refine wpS_bind (A2 ev ?_);refine A9 (fun z=>wpS_pure (.inl ⟨_,rfl,firstM _ _ _ _ m2 l (O6 z)⟩)) (fun z=> ?_);have z:¬nb' - 1=1:=R1 z;refine A9 (fun _=> ?_) (fun _=> ?_)
       · exact wpS_pure (.inr ⟨na',nb' - 1,out'.push v,_,_,rfl,rfl,m2,k1,by omega,by omega⟩)
       · exact wpS_pure ⟨na',nb' - 1,out'.push v,_,_,rfl,rfl,m2,k1,by omega,by omega⟩
   case post2=>
     rintro c t' (⟨r,hr,q⟩|⟨na',nb',out',p,q,rfl,rfl,m',k1,k2,k3⟩)
     · obtain ⟨c1,c2⟩:=c;cases hr;exact wpS_pure ⟨r,rfl,q⟩
     · refine wpS_bind (wpS_lift (wpAny_rule ⟨rfl,?_⟩))
       refine wpS_bind (wpS_mono (wpS_forRange (I:=fun y c t2=>∃na2 nb2 out2 g2 p q,c=(none,na2,nb2,out2,g2,p,q)/\G7 st t2/\Mh rk a b out2 na2 nb2/\1<=na2/\2<=nb2/\x+1+na2+nb2<=a.size+b.size)
         (Q:=fun c t2=>(∃r,c.1=some r/\MQ rk a b st r t2)\/(∃na2 nb2 out2 g2 p q,c=(none,na2,nb2,out2,g2,p,q)/\G7 st t2/\Mh rk a b out2 na2 nb2/\1<=na2/\2<=nb2/\x+1+na2+nb2<=a.size+b.size)) ?step3 ?fin3 ⟨_,_,_,_,_,_,rfl,l,m',k1,k2,k3⟩) ?post3)
       case fin3=>
         rintro c t2 h;exact .inr h
       case post3=>
         rintro c t2 (⟨r,hr,q⟩|⟨na2,nb2,out2,g2,p,q,rfl,l2,m2,n1,n2,n3⟩)
         · obtain ⟨c1,c2⟩:=c;cases hr;exact wpS_pure ⟨r,rfl,q⟩
         · refine wpS_bind (cs1 l2 fun t3 l3=> ?_);exact wpS_pure ⟨_,_,_,_,rfl,m2,n1,n2,n3,l3⟩
       case step3=>
         rintro y c t2 _ yn ⟨na2,nb2,out2,g2,p,q,rfl,l2,m2,n1,n2,n3⟩;have q1:=m2.1;have q2:=m2.2.1;obtain ⟨v,ev,mv⟩:=ib.at (show nb2 - 1 < b.size by omega);refine A9 (fun _=> ?_) (fun _=> ?_)
         all_goals
           refine wpS_bind (cs1 l2 fun t3 l3=> ?_);refine wpS_bind (A2 ev ?_);refine wpS_bind (ai6 (base:=0) (n:=na2) (hint:=na2 - 1) C (l3.kind.trans hk) ia mv (by omega) (by omega) (fun x y h1 h2 h3=>ua x y (by omega) h2 (by omega)) fun k kn ka kb=> ?_)
           have m3:Mh rk a b (out2++(a.extract k na2).reverse) k nb2:=m2.manyA sa kn fun n x h1 h2 hx z hz=>by
             have h:=kb n h1 h2;unfold B5 at h;rw[if_neg (by decide),ee8,D8 hx] at h
             have hle:rk v < rk x:=by simpa using h
             exact dt6 (ai7 sb (by omega) (G4 ev) z hz) (dz1 hle)
           have gA:1<=k->R rk a (k - 1)<=rk v:=fun h=>by
             have h:=ka (k - 1) (by omega);unfold B5 at h;rw[if_neg (by decide),ee8] at h
             simpa using h
           refine A9 (fun kz=> ?_) (fun kz=> ?_);have kz:na2 - k > 0:=kz;refine A9 (fun z=>wpS_pure (.inl ⟨_,rfl,doneM _ _ _ _ m3 l3 (.inl (O6 z))⟩)) (fun z1=> ?_);have z1:¬k=0:=R1 z1
           have f1:1<=k:=by omega
           have f2:x+1+k+nb2<=a.size+b.size:=by omega
           have f3:=gA f1;generalize out2++(a.extract k na2).reverse=out3 at m3 ⊢
           rotate_left
           have kz:¬na2 - k > 0:=kz
           have k0:k=na2:=by omega
           have e0:out2++(a.extract k na2).reverse=out2:=by rw[k0];simp<;>omega
           rw[e0] at m3
           have f1:1<=k:=by omega
           have f2:x+1+k+nb2<=a.size+b.size:=by omega
           have f3:=gA f1;clear e0;subst k0;generalize out2=out3 at m3 ⊢
           rotate_left
           all_goals
             obtain ⟨u3,eu3,mu3⟩:=ia.at (show k - 1 < a.size by omega);rw[D8 eu3] at f3;refine wpS_bind (A2 ev ?_);have m4:=stepB out3 k nb2 u3 v m3 f1 (by omega) eu3 ev f3;refine A9 (fun z=>wpS_pure (.inl ⟨_,rfl,firstM _ _ _ _ m4 l3 (O6 z)⟩)) (fun z3=> ?_);have z3:¬nb2 - 1=1:=R1 z3;refine wpS_bind (A2 eu3 ?_);refine wpS_bind (ai6 (base:=0) (n:=nb2 - 1) (hint:=nb2 - 1 - 1) C (l3.kind.trans hk) ib mu3 (by omega) (by omega) (fun x y h1 h2 h3=>ub x y (by omega) h2 (by omega)) fun k' kn' ka' kb'=> ?_)
             have m5:Mh rk a b (out3.push v++(b.extract k' (nb2 - 1)).reverse) k k':=m4.manyB sb kn' fun n x h1 h2 hx z hz=>by
               have h:=kb' n h1 h2;unfold B5 at h;rw[if_pos rfl,ee8,D8 hx] at h
               have hle:rk u3<=rk x:=by simpa using h
               exact dt6 (ai7 sa f1 (G4 eu3) z hz) hle
             have gB:1<=k'->R rk b (k' - 1) < rk u3:=fun h=>by
               have h:=ka' (k' - 1) (by omega);unfold B5 at h;rw[if_pos rfl,ee8] at h
               simpa using h
             refine A9 (fun kz'=> ?_) (fun kz'=> ?_);have kz':nb2 - 1 - k' > 0:=kz';refine A9 (fun z=>wpS_pure (.inl ⟨_,rfl,firstM _ _ _ _ m5 l3 (O6 z)⟩)) (fun z4=> ?_);have z4:¬k'=1:=R1 z4;refine A9 (fun z=>wpS_pure (.inl ⟨_,rfl,doneM _ _ _ _ m5 l3 (.inr (O6 z))⟩)) (fun z5=> ?_);have z5:¬k'=0:=R1 z5
             have f4:2<=k':=by omega
             have f5:x+1+k+k'<=a.size+b.size:=by omega
             have f6:=gB (by omega);generalize out3.push v++(b.extract k' (nb2 - 1)).reverse=out4 at m5 ⊢
             rotate_left
             have kz':¬nb2 - 1 - k' > 0:=kz'
             have k0':k'=nb2 - 1:=by omega
             have e0:out3.push v++(b.extract k' (nb2 - 1)).reverse=out3.push v:=by rw[k0'];simp<;>omega
             rw[e0] at m5
             have f4:2<=k':=by omega
             have f5:x+1+k+k'<=a.size+b.size:=by omega
             have f6:=gB (by omega);clear e0;generalize out3.push v=out4 at m5 ⊢
             rotate_left
             all_goals
               have q3:=m5.2.1;obtain ⟨v4,ev4,mv4⟩:=ib.at (show k' - 1 < b.size by omega);rw[D8 ev4] at f6;have m6:=stepA out4 k k' u3 v4 m5 f1 (by omega) eu3 ev4 (dz1 f6);refine wpS_bind (A2 eu3 ?_)
               first
                 |refine A9 (fun z=>wpS_pure (.inl ⟨_,rfl,doneM _ _ _ _ m6 l3 (.inl (O6 z))⟩)) (fun z6=> ?_)
                 |(rw[k0'] at m6;refine A9 (fun z=>wpS_pure (.inl ⟨_,rfl,doneM _ _ _ _ m6 l3 (.inl (O6 z))⟩)) (fun z6=> ?_))
               have z6:¬k - 1=0:=R1 z6;refine A9 (fun _=> ?_) (fun _=> ?_)
               · first
                   |exact wpS_pure (.inr ⟨k - 1,k',out4.push u3,_,_,_,rfl,l3,m6,by omega,f4,by omega⟩)
                   |exact wpS_pure (.inr ⟨k - 1,nb2 - 1,out4.push u3,_,_,_,rfl,l3,m6,by omega,by omega,by omega⟩)
               · first
                   |exact wpS_pure ⟨k - 1,k',out4.push u3,_,_,_,rfl,l3,m6,by omega,f4,by omega⟩
                   |exact wpS_pure ⟨k - 1,nb2 - 1,out4.push u3,_,_,_,rfl,l3,m6,by omega,by omega,by omega⟩
end
end TS
namespace TS
open PySem PyProof.Rows
section
variable {rk:Keyed->Nat}
def K0 (xs:Array Keyed)(lo hi:Nat):List Keyed:=(xs.toList.take hi).drop lo
theorem L5 {xs:Array Keyed}{lo hi:Nat}(h:hi<=xs.size):(K0 xs lo hi).length=hi - lo:=by unfold K0;rw[dx1,du1];simp;omega
theorem K2 {xs:Array Keyed}{lo hi i:Nat}(hi':lo+i < hi):(K0 xs lo hi)[i]? =xs[lo+i]? :=by
 unfold K0;rw[eg4,dz8 hi',dy2]
theorem ar4 {xs:Array Keyed}{lo hi:Nat}(u:Up rk xs lo hi)(h:hi<=xs.size):D9 (Le rk) (K0 xs lo hi):=by
 refine dv6.mpr fun i j h1 h2 hij=> ?_
 have l:=L5 (lo:=lo) h;have e1:(K0 xs lo hi)[i]? =some (K0 xs lo hi)[i]:=ds2 h1;have e2:(K0 xs lo hi)[j]? =some (K0 xs lo hi)[j]:=ds2 h2;rw[K2 (by omega)] at e1 e2;have:=u (lo+i) (lo+j) (by omega) (by omega) (by omega);rw[D8 e1,D8 e2] at this;exact this
theorem dh7 {xs:Array Keyed}{lo hi:Nat}(s:D9 (Le rk) (K0 xs lo hi))(h:hi<=xs.size):Up rk xs lo hi:=fun i j h1 h2 h3=>by
 have l:=L5 (lo:=lo) h
 rcases ei9 h2 with z|z
 · have:=dv6.mp s (i - lo) (j - lo) (by omega) (by omega) (by omega);have e1:(K0 xs lo hi)[i - lo]? =some (K0 xs lo hi)[i - lo]:=ds2 (by omega);have e2:(K0 xs lo hi)[j - lo]? =some (K0 xs lo hi)[j - lo]:=ds2 (by omega);rw[K2 (by omega),show lo+(i - lo)=i by omega] at e1;rw[K2 (by omega),show lo+(j - lo)=j by omega] at e2;rw[D8 e1,D8 e2];exact this
 · rw[z];exact ds4 _
theorem W8 {xs:Array Keyed}{lo hi:Nat}{x:Keyed}(h:hi<=xs.size)(hx:x∈K0 xs lo hi):∃i,lo<=i/\i < hi/\xs[i]? =some x:=by
 obtain ⟨i,hi'⟩:=dv7.mp hx;have l:=L5 (lo:=lo) h;have:=(ds3.mp hi').1;exact ⟨lo+i,by omega,by omega,by rw[<-K2 (hi:=hi) (by omega)];exact hi'⟩
theorem W9 {xs:Array Keyed}{a b c:Nat}(h1:a<=b)(h2:b<=c)(h:c<=xs.size):K0 xs a b++K0 xs b c=K0 xs a c:=by
 refine dx9 fun i=> ?_
 by_cases z:i < b - a
 · rw[dv8 (by rw[L5 (by omega)];omega),K2 (by omega),K2 (by omega)]
 · rw[dw7 (by rw[L5 (by omega)];omega),L5 (by omega)]
   by_cases y:i < c - a
   · rw[K2 (by omega),K2 (by omega)];congr 1;omega
   · rw[dt5 (by rw[L5 h];omega),dt5 (by rw[L5 h];omega)]
theorem bz7 (xs:Array Keyed):K0 xs 0 xs.size=xs.toList:=by
 unfold K0;rw[eo3,eb4 (by simp)]
def wr (p:Nat)(l:List (Keyed×Nat))(xs:Array Keyed):Array Keyed:=l.foldl (fun a q=>a.setIfInBounds (p+q.2) q.1) xs
theorem ai8 (p:Nat):∀(l:List (Keyed×Nat)) (xs:Array Keyed),(wr p l xs).size=xs.size
 |[],xs=>rfl
 |q::l,xs=>(ai8 p l _).trans (by simp)
theorem bq9 (p:Nat):∀(m:List Keyed) (n:Nat) (xs:Array Keyed),p+n+m.length<=xs.size->∀k,(wr p (m.zipIdx n) xs)[k]? =if p+n<=k/\k < p+n+m.length then m[k - (p+n)]? else xs[k]?
 |[],n,xs,_,k=>by
  show xs[k]? =_;rw[if_neg (by simp)]
 |x::m,n,xs,h,k=>by
  rw[dv9] at h ⊢;show (wr p (m.zipIdx (n+1)) (xs.setIfInBounds (p+n) x))[k]? =_;rw[bq9 p m (n+1) _ (by rw[Array.size_setIfInBounds];omega) k,Array.getElem?_setIfInBounds]
  by_cases z:k=p+n
  · subst z;rw[if_neg (by omega),if_pos rfl,if_pos (by omega),if_pos (by omega),ej5];rfl
  · by_cases y:p+n<=k/\k < p+n+(m.length+1)
    · rw[if_pos (by omega),if_pos y,show k - (p+n)=k - (p+(n+1))+1 by omega];rfl
    · rw[if_neg (by omega),if_neg (by omega),if_neg y]
theorem cm4 {m:List Keyed}{p:Nat}{xs:Array Keyed}(h:p+m.length<=xs.size):K0 (wr p m.zipIdx xs) p (p+m.length)=m:=by
 refine dx9 fun i=> ?_
 by_cases z:i < m.length
 · rw[K2 (by omega),bq9 p m 0 xs h,if_pos (by omega)]
   congr 1;omega
 · rw[dt5 (by rw[L5 (by rw[ai8];omega)];omega),dt5 (by omega)]
theorem bz8 {m:List Keyed}{p:Nat}{xs:Array Keyed}(h:p+m.length<=xs.size):A8 xs (wr p m.zipIdx xs) p (p+m.length):=fun k hk=>by
 rw[bq9 p m 0 xs h,if_neg (by omega)]
theorem ak5 {xs ys:Array Keyed}{lo hi a b:Nat}(hz:ys.size=xs.size)(k:A8 xs ys lo hi)(h:b<=lo\/hi<=a)(hb:b<=xs.size):K0 ys a b=K0 xs a b:=by
 refine dx9 fun i=> ?_
 by_cases z:a+i < b
 · rw[K2 z,K2 z];exact k _ (by omega)
 · rw[dt5 (by rw[L5 (by omega)];omega),dt5 (by rw[L5 hb];omega)]
theorem da8 {m:List Keyed}{p:Nat}{xs:Array Keyed}(h:p+m.length<=xs.size)(pm:m.Perm (K0 xs p (p+m.length))):(wr p m.zipIdx xs).Perm xs:=by
 rw[eb3,<-bz7 xs,<-bz7 (wr p m.zipIdx xs),ai8];have hk:=bz8 h;have hs:=ai8 p m.zipIdx xs;rw[<-W9 (du3 p) (show p<=xs.size by omega) (ds4 _),<-W9 (show p<=p+m.length by omega) (show p+m.length<=xs.size by omega) (ds4 _)];rw[<-W9 (xs:=wr p m.zipIdx xs) (du3 p) (show p<=xs.size by omega) (by omega),<-W9 (xs:=wr p m.zipIdx xs) (show p<=p+m.length by omega) (show p+m.length<=xs.size by omega) (by omega)];rw[ak5 hs hk (.inl (ds4 _)) (by omega),ak5 hs hk (.inr (ds4 _)) (ds4 _),cm4 h];exact List.Perm.append_left _ (pm.append_right _)
end
end TS
namespace TS
open PySem PyProof.Rows
section
variable {prog:Program} {w:World} {A:Around} {E:Value->Shared->Prop} {s:Shared}
variable {rk:Keyed->Nat} {a0:Array Keyed} {κ:SortKind}
theorem da9 {st:SortSt}(B:Bs a0 κ st)(lo hi:Nat):In0 a0 ((arrOf st).extract lo hi):=fun x hx=>by
 rw[Q5] at hx;exact (eb3.mp B.perm).mem_iff.mp (dy5 (ec3 hx))
theorem be2 {st:SortSt}(B:Bs a0 κ st):In0 a0 (arrOf st):=fun x hx=>(eb3.mp B.perm).mem_iff.mp hx
theorem bz9 {xs:Array Keyed}{lo hi i:Nat}(h:lo+i < hi):(xs.extract lo hi)[i]? =xs[lo+i]? :=by
 rw[<-dy2,Q5];exact K2 h
theorem dh8 {st:SortSt}{i sa na nb pw pw2:Nat}{Q:Bool->SortSt->Prop}(C:Cm prog w A s κ rk a0)(B:Bs a0 κ st)(e1:(pendingOf st)[i]? =some (sa,na,pw))(e2:(pendingOf st)[i+1]? =some (sa+na,nb,pw2))(n1:1<=na)(n2:1<=nb)
   (hz:sa+na+nb<=a0.size) (u1:Up rk (arrOf st) sa (sa+na)) (u2:Up rk (arrOf st) (sa+na) (sa+na+nb))
   (h:∀t,Bs a0 κ t->Up rk (arrOf t) sa (sa+na+nb)->A8 (arrOf st) (arrOf t) sa (sa+na+nb)->pendingOf t=((pendingOf st).setIfInBounds i (sa,na+nb,pw)).eraseIdxIfInBounds (i+1)->Q true t):
   wpS (model prog w) A E s (mergeAt' i) Q st:=by
 have hs:=B.size;refine wpS_bind (wpS_get ?_);rw[show (sortPriv%PySem.Builtin.SortState.pending) st=pendingOf st from rfl,e1,e2];refine wpS_bind (wpS_modify (f:=fun _=>setPending st (((pendingOf st).setIfInBounds i (sa,na+nb,pw)).eraseIdxIfInBounds (i+1))) ?_);obtain ⟨pd,hpd⟩:∃pd,pd=((pendingOf st).setIfInBounds i (sa,na+nb,pw)).eraseIdxIfInBounds (i+1):=⟨_,rfl⟩;rw[<-hpd] at h ⊢;have B1:Bs a0 κ (setPending st pd):=⟨B.perm,B.kind,B.ok⟩;obtain ⟨xs,hxs⟩:∃xs,xs=arrOf st:=⟨_,rfl⟩;have In:=be2 B
 have ext0:=fun lo hi=>da9 B lo hi
 rw[<-hxs] at hs u1 u2 h In ext0
 have hxz:sa+na+nb<=xs.size:=by omega
 obtain ⟨key,ek,mk⟩:=In.at (show sa+na < xs.size by omega)
 have ek':(arrOf st)[sa+na]? =some key:=by rw[<-hxs];exact ek
 refine wpS_bind (A2 ek' ?_);refine wpS_bind (ai6 (left:=false) (arr:=arrOf st) (base:=sa) (n:=na) (hint:=0) C B1.kind (be2 B) mk (by rw[<-hxs];omega) (by omega) (by rw[<-hxs];exact u1) fun k kn ka kb=> ?_)
 have ka1:∀i,sa<=i->i < sa+k->R rk xs i<=rk key:=fun i h1 h2=>by
   have:=ka (i - sa) (by omega);unfold B5 at this;rw[if_neg (by decide),<-hxs,show sa+(i - sa)=i by omega] at this
   simpa using this
 have kb1:∀i,sa+k<=i->i < sa+na->rk key < R rk xs i:=fun i h1 h2=>by
   have:=kb (i - sa) (by omega) (by omega);unfold B5 at this;rw[if_neg (by decide),<-hxs,show sa+(i - sa)=i by omega] at this
   simpa using this
 have rkey:R rk xs (sa+na)=rk key:=D8 ek
 have joined:(∀i,sa<=i->i < sa+na->∀j,sa+na<=j->j < sa+na+nb->R rk xs i<=R rk xs j)->Up rk xs sa (sa+na+nb):=fun g i j h1 h2 h3=>by
   by_cases y:j < sa+na
   · exact u1 i j h1 h2 y
   · by_cases z:i < sa+na
     · exact g i h1 z j (by omega) h3
     · exact u2 i j (by omega) h2 h3
 refine A9 (fun z=> ?_) (fun z=> ?_)
 · have z:na - k=0:=O6 z;refine wpS_pure (h _ B1 ?_ (by rw[hxs];exact A8.refl _ _ _) rfl);show Up rk (arrOf st) _ _;rw[<-hxs]
   refine joined fun i h1 h2 j h3 h4=> ?_
   have a1:=ka1 i h1 (by omega);have a2:=u2 (sa+na) j (ds4 _) h3 h4;omega
 have z:¬na - k=0:=R1 z
 have ep:sa+k+(na - k) - 1=sa+na - 1:=by omega
 obtain ⟨key2,ek2,mk2⟩:=In.at (show sa+na - 1 < xs.size by omega)
 have ek2':(arrOf st)[sa+k+(na - k) - 1]? =some key2:=by rw[ep,<-hxs];exact ek2
 have rkey2:R rk xs (sa+na - 1)=rk key2:=D8 ek2;refine wpS_bind (A2 ek2' ?_);refine wpS_bind (ai6 (left:=true) (arr:=arrOf st) (base:=sa+na) (n:=nb) (hint:=nb - 1) C B1.kind (be2 B) mk2 (by rw[<-hxs];omega) (by omega) (by rw[<-hxs];exact u2) fun k' kn' ka' kb'=> ?_)
 have ka2:∀i,sa+na<=i->i < sa+na+k'->R rk xs i < rk key2:=fun i h1 h2=>by
   have:=ka' (i - (sa+na)) (by omega);unfold B5 at this;rw[if_pos rfl,<-hxs,show sa+na+(i - (sa+na))=i by omega] at this
   simpa using this
 have kb2:∀i,sa+na+k'<=i->i < sa+na+nb->rk key2<=R rk xs i:=fun i h1 h2=>by
   have:=kb' (i - (sa+na)) (by omega) (by omega);unfold B5 at this;rw[if_pos rfl,<-hxs,show sa+na+(i - (sa+na))=i by omega] at this
   simpa using this
 refine A9 (fun z'=> ?_) (fun z'=> ?_)
 · have z':k'=0:=O6 z';refine wpS_pure (h _ B1 ?_ (by rw[hxs];exact A8.refl _ _ _) rfl);show Up rk (arrOf st) _ _;rw[<-hxs]
   refine joined fun i h1 h2 j h3 h4=> ?_
   have a1:=kb2 j (by omega) h4;have a2:=u1 i (sa+na - 1) h1 (by omega) (by omega);omega
 have z':¬k'=0:=R1 z';have xl:(xs.extract (sa+k) (sa+na)).toList=K0 xs (sa+k) (sa+na):=Q5 _ _ _;have yl:(xs.extract (sa+na) (sa+na+k')).toList=K0 xs (sa+na) (sa+na+k'):=Q5 _ _ _
 have xz:(xs.extract (sa+k) (sa+na)).size=na - k:=by rw[Array.size_extract];omega
 have yz:(xs.extract (sa+na) (sa+na+k')).size=k':=by rw[Array.size_extract];omega
 have sx:D9 (Le rk) (xs.extract (sa+k) (sa+na)).toList:=by rw[xl];exact ar4 (fun i j h1 h2 h3=>u1 i j (by omega) h2 h3) (by omega)
 have sy:D9 (Le rk) (xs.extract (sa+na) (sa+na+k')).toList:=by rw[yl];exact ar4 (fun i j h1 h2 h3=>u2 i j h1 h2 (by omega)) (by omega)
 have fx:∀x,(xs.extract (sa+na) (sa+na+k'))[0]? =some x->∀y∈(xs.extract (sa+k) (sa+na)).toList,Le rk x y:=fun x hx y hy=>by
   rw[bz9 (by omega),ea9,ek] at hx;rw[xl] at hy;obtain ⟨i,h1,h2,h3⟩:=W8 (by omega) hy;have:=kb1 i h1 h2;rw[D8 h3] at this;rw[<-Option.some.inj hx];exact dz1 this
 have ly:∀x∈(xs.extract (sa+na) (sa+na+k')).toList,∀y,(xs.extract (sa+k) (sa+na))[(xs.extract (sa+k) (sa+na)).size - 1]? =some y->Le rk x y:=fun x hx y hy=>by
   rw[xz,bz9 (by omega),show sa+k+(na - k - 1)=sa+na - 1 by omega,ek2] at hy;rw[yl] at hx;obtain ⟨i,h1,h2,h3⟩:=W8 (by omega) hx;have:=ka2 i h1 h2;rw[D8 h3] at this;rw[<-Option.some.inj hy];exact dz1 this
 have fin:∀m t,MQ rk (xs.extract (sa+k) (sa+na)) (xs.extract (sa+na) (sa+na+k')) (setPending st pd) m t->Q true (setArr t (wr (sa+k) m.toList.zipIdx (arrOf t)))/\failedOf t=none:=by
   rintro m t ⟨⟨pm,sm⟩,l⟩
   have lm:m.toList.length=na - k+k':=by rw[pm.length_eq,ds8,du5,du5,xz,yz]
   have ea:arrOf t=xs:=by rw[l.arr,hxs]
   have hle:sa+k+m.toList.length<=xs.size:=by omega
   have esg:K0 xs (sa+k) (sa+k+m.toList.length)=K0 xs (sa+k) (sa+na)++K0 xs (sa+na) (sa+na+k'):=by
     rw[W9 (by omega) (by omega) (by omega)];congr 1;omega
   have pm':m.toList.Perm (K0 xs (sa+k) (sa+k+m.toList.length)):=by rw[esg,<-xl,<-yl];exact pm
   have kw:=bz8 hle;have zw:=ai8 (sa+k) m.toList.zipIdx xs;refine ⟨h _ ⟨?_,l.kind.trans B1.kind,l.ok.trans B1.ok⟩ ?_ ?_ l.pend,l.ok.trans B1.ok⟩
   · show (wr (sa+k) m.toList.zipIdx (arrOf t)).Perm a0;rw[ea];refine (da8 hle pm').trans ?_;rw[hxs];exact B.perm
   · show Up rk (wr (sa+k) m.toList.zipIdx (arrOf t)) sa (sa+na+nb);rw[ea];refine dh7 ?_ (by omega)
     rw[<-W9 (show sa<=sa+k by omega) (show sa+k<=sa+na+nb by omega) (by omega),<-W9 (show sa+k<=sa+k+m.toList.length by omega) (show sa+k+m.toList.length<=sa+na+nb by omega) (by omega),cm4 hle,
       ak5 zw kw (.inl (ds4 _)) (by omega),ak5 zw kw (.inr (ds4 _)) (by omega)]
     have mm:∀x∈m.toList,(∃i,sa+k<=i/\i < sa+na/\xs[i]? =some x)\/(∃i,sa+na<=i/\i < sa+na+k'/\xs[i]? =some x):=fun x hx=>by
       have:=pm.mem_iff.mp hx;rw[xl,yl] at this
       rcases dt4.mp this with e|e
       · exact .inl (W8 (by omega) e)
       · exact .inr (W8 (by omega) e)
     refine T6.mpr ⟨ar4 (fun i j h1 h2 h3=>u1 i j h1 h2 (by omega)) (by omega),T6.mpr ⟨sm,ar4 (fun i j h1 h2 h3=>u2 i j (by omega) h2 h3) (by omega),fun x hx y hy=> ?_⟩,fun x hx y hy=> ?_⟩
     · obtain ⟨j,j1,j2,j3⟩:=W8 (by omega) hy;have b2:=kb2 j (by omega) j2;rw[D8 j3] at b2
       rcases mm x hx with ⟨i,i1,i2,i3⟩|⟨i,i1,i2,i3⟩
       · have b1:=u1 i (sa+na - 1) (by omega) (by omega) (by omega);rw[D8 i3,rkey2] at b1;exact dt6 b1 b2
       · have b1:=ka2 i i1 i2;rw[D8 i3] at b1;show rk x<=rk y;omega
     · obtain ⟨i,i1,i2,i3⟩:=W8 (by omega) hx;have b1:=ka1 i i1 i2;rw[D8 i3] at b1;show rk x<=rk y
       rcases dt4.mp hy with e|e
       · rcases mm y e with ⟨j,j1,j2,j3⟩|⟨j,j1,j2,j3⟩
         · have b2:=kb1 j j1 j2;rw[D8 j3] at b2;omega
         · have b2:=u2 (sa+na) j (ds4 _) j1 (by omega);rw[D8 j3,rkey] at b2;omega
       · obtain ⟨j,j1,j2,j3⟩:=W8 (by omega) e;have b2:=u2 (sa+na) j (ds4 _) (by omega) j2;rw[D8 j3,rkey] at b2;omega
   · show A8 xs (wr (sa+k) m.toList.zipIdx (arrOf t)) _ _;rw[ea];exact kw.wide (by omega) (by omega)
 have ix:=ext0 (sa+k) (sa+na);have iy:=ext0 (sa+na) (sa+na+k');have k1:kindOf (setPending st pd)=κ:=B1.kind
 have end_:∀m t,MQ rk (xs.extract (sa+k) (sa+na)) (xs.extract (sa+na) (sa+na+k')) (setPending st pd) m t->Q (failedOf (setArr t (wr (sa+k) m.toList.zipIdx (arrOf t)))).isNone (setArr t (wr (sa+k) m.toList.zipIdx (arrOf t))):=fun m t q=>by
   obtain ⟨f1,f2⟩:=fin m t q;show Q (failedOf t).isNone _;rw[f2];exact f1
 rw[hxs] at ix iy sx sy fx ly end_ xz yz
 have g1:1<=((arrOf st).extract (sa+k) (sa+na)).size:=by rw[xz];omega
 have g2:1<=((arrOf st).extract (sa+na) (sa+na+k')).size:=by rw[yz];omega
 refine A9 (fun _=> ?_) (fun _=> ?_)
 · refine wpS_bind (wpS_mono (dh5 C k1 ix iy g1 g2 sx sy fx ly) fun m t q=> ?_);exact wpS_bind (wpS_modify (wpS_bind (wpS_get (wpS_pure (end_ m t q)))))
 · refine wpS_bind (wpS_mono (dh6 C k1 ix iy g1 g2 sx sy fx ly) fun m t q=> ?_);exact wpS_bind (wpS_modify (wpS_bind (wpS_get (wpS_pure (end_ m t q)))))
end
end TS
namespace TS
open PySem PyProof.Rows
section
variable {rk:Keyed->Nat}
def C3 (rk:Keyed->Nat)(xs:Array Keyed):List (Nat×Nat×Nat)->Nat->Nat->Prop
 |[],a,b=>a=b
 |q::r,a,b=>q.1=a/\1<=q.2.1/\Up rk xs a (a+q.2.1)/\C3 rk xs r (a+q.2.1) b
theorem C3.len {xs:Array Keyed}:∀{l:List (Nat×Nat×Nat)} {a b:Nat},C3 rk xs l a b->a+l.length<=b
 |[],a,b,h=>eh8 h
 |q::r,a,b,⟨h1,h2,h3,h4⟩=>by
  have:=C3.len h4;rw[dv9];omega
theorem C3.app {xs:Array Keyed}:∀{l m:List (Nat×Nat×Nat)} {a b:Nat},C3 rk xs (l++m) a b↔∃c,C3 rk xs l a c/\C3 rk xs m c b
 |[],m,a,b=>⟨fun h=>⟨a,rfl,h⟩,fun ⟨c,e,h⟩=>by cases e;exact h⟩
 |q::r,m,a,b=>by
  constructor
  · rintro ⟨h1,h2,h3,h4⟩;obtain ⟨c,g1,g2⟩:=C3.app.mp h4;exact ⟨c,⟨h1,h2,h3,g1⟩,g2⟩
  · rintro ⟨c,⟨h1,h2,h3,h4⟩,g⟩;exact ⟨h1,h2,h3,C3.app.mpr ⟨c,h4,g⟩⟩
theorem C3.kept {xs ys:Array Keyed}{lo hi:Nat}(k:A8 xs ys lo hi):∀{l:List (Nat×Nat×Nat)} {a b:Nat},C3 rk xs l a b->b<=lo\/hi<=a->C3 rk ys l a b
 |[],a,b,h,_=>h
 |q::r,a,b,⟨h1,h2,h3,h4⟩,hk=>by
  have:=C3.len h4;exact ⟨h1,h2,k.up h3 (by omega),C3.kept k h4 (by omega)⟩
theorem bj1 {α:Type}:∀(l:List α) (x y z:α) (m:List α),((l++x::y::m).set l.length z).eraseIdx (l.length+1)=l++z::m
 |[],x,y,z,m=>rfl
 |a::l,x,y,z,m=>by
  show a::(((l++x::y::m).set l.length z).eraseIdx (l.length+1))=_;rw[bj1 l x y z m];rfl
theorem dh9 {α:Type}{l:List α}{i:Nat}(h:i+1 < l.length):l=l.take i++l[i]::l[i+1]::l.drop (i+2):=by
 have e1:=ea5 (show i < l.length by omega);have e2:=ea5 h;rw[<-e2,<-e1,dx2]
theorem ca0 {xs:Array Keyed}{pw:Nat}:∀{l:List (Nat×Nat×Nat)} {n a b:Nat},C3 rk xs l a b->C3 rk xs (l.modify n fun q=>(q.1,q.2.1,pw)) a b
 |[],n,a,b,h=>by cases n<;>exact h
 |q::r,0,a,b,⟨h1,h2,h3,h4⟩=>⟨h1,h2,h3,h4⟩
 |q::r,n+1,a,b,⟨h1,h2,h3,h4⟩=>⟨h1,h2,h3,ca0 h4⟩
end
section
variable {prog:Program} {w:World} {A:Around} {E:Value->Shared->Prop} {s:Shared}
variable {rk:Keyed->Nat} {a0:Array Keyed} {κ:SortKind}
theorem cm5 {st:SortSt}{i lo:Nat}{Q:Bool->SortSt->Prop}(C:Cm prog w A s κ rk a0)(B:Bs a0 κ st)(cv:C3 rk (arrOf st) (pendingOf st).toList 0 lo)(hl:lo<=a0.size)(hi:i+1 < (pendingOf st).size)
   (h:∀t,Bs a0 κ t->C3 rk (arrOf t) (pendingOf t).toList 0 lo->(pendingOf t).size+1=(pendingOf st).size->A8 (arrOf st) (arrOf t) 0 lo->Q true t):wpS (model prog w) A E s (mergeAt' i) Q st:=by
 obtain ⟨l,hl0⟩:∃l,l=(pendingOf st).toList:=⟨_,rfl⟩
 have ll:l.length=(pendingOf st).size:=by rw[hl0];simp
 have hil:i+1 < l.length:=by omega
 have e:=dh9 hil;rw[<-hl0,e] at cv;obtain ⟨c,c1,d1,d2,d3,f1,f2,f3,g⟩:=C3.app.mp cv;have lg:=C3.len g
 have e1:(pendingOf st)[i]? =some (c,l[i].2.1,l[i].2.2):=by
   rw[<-dy2,<-hl0,ds2 (by omega),<-d1]
 have e2:(pendingOf st)[i+1]? =some (c+l[i].2.1,l[i+1].2.1,l[i+1].2.2):=by
   rw[<-dy2,<-hl0,ds2 hil,<-f1]
 refine dh8 C B e1 e2 d2 f2 (by omega) d3 f3 fun t B' u k p=> ?_
 have lt:(l.take i).length=i:=by rw[du1];omega
 have ep:(pendingOf t).toList=l.take i++(c,l[i].2.1+l[i+1].2.1,l[i].2.2)::l.drop (i+2):=by
   rw[p,Array.toList_eraseIdxIfInBounds,Array.toList_setIfInBounds,<-hl0];have:=bj1 (l.take i) l[i] l[i+1] (c,l[i].2.1+l[i+1].2.1,l[i].2.2) (l.drop (i+2));rw[lt,<-e] at this;exact this
 have lc:=C3.len c1;refine h t B' ?_ ?_ (k.wide (du3 _) (by omega))
 · rw[ep];refine C3.app.mpr ⟨c,C3.kept k c1 (.inl (ds4 _)),rfl,by show 1<=l[i].2.1+l[i+1].2.1;omega,?_,?_⟩
   · show Up rk (arrOf t) c (c+(l[i].2.1+l[i+1].2.1));rw[<-ek5];exact u
   · show C3 rk (arrOf t) (l.drop (i+2)) (c+(l[i].2.1+l[i+1].2.1)) lo;rw[<-ek5];exact C3.kept k g (.inr (ds4 _))
 · rw[<-du5,ep,ds8,dv9,dx1,lt];omega
theorem dm2 {c:Prop}[Decidable c]{a b n:Nat}(h1:a<=n)(h2:b<=n):(if c then a else b)<=n:=by split<;>assumption
theorem cs2 {t:SortSt}{lo n:Nat}(cv:C3 rk (arrOf t) (pendingOf t).toList 0 lo)(n1:1<=n)(u:Up rk (arrOf t) lo (lo+n)):C3 rk (arrOf t) ((pendingOf t).push (lo,n,0)).toList 0 (lo+n):=by
 rw[ef6];exact C3.app.mpr ⟨lo,cv,rfl,n1,u,rfl⟩
theorem dq9 {st:SortSt}{Q:Unit->SortSt->Prop}(C:Cm prog w A s κ rk a0)(B:Bs a0 κ st)(pe:pendingOf st= #[])(h2:2<=a0.size)
   (h:∀t,Bs a0 κ t->Up rk (arrOf t) 0 a0.size->Q () t):wpS (model prog w) A E s sortRuns' Q st:=by
 rw[sortRuns'_eq];refine wpS_bind (wpS_get ?_)
 dsimp only
 rw[B.size];generalize minRun' a0.size a0.size 0=mr
 refine wpS_bind (wpS_mono (wpS_forRange (I:=fun x c t=>∃lo,c=(none,lo)/\Bs a0 κ t/\C3 rk (arrOf t) (pendingOf t).toList 0 lo/\lo<=a0.size/\(x<=lo\/a0.size<=lo))
   (Q:=fun c t=>∃lo,c=(none,lo)/\Bs a0 κ t/\C3 rk (arrOf t) (pendingOf t).toList 0 lo/\lo=a0.size) ?step ?fin ⟨0,rfl,B,by rw[pe];exact rfl,du3 _,.inl (ds4 _)⟩) ?post)
 case fin=>
   rintro c t ⟨lo,rfl,B',cv,h3,h4⟩;exact ⟨lo,rfl,B',cv,by omega⟩
 case step=>
   rintro x c t _ xn ⟨lo,rfl,B',cv,h3,h4⟩;refine A9 (fun z=>wpS_pure ⟨lo,rfl,B',cv,by have z:lo≥a0.size:=z;omega⟩) (fun z=> ?_);have z:¬lo≥a0.size:=z;refine wpS_bind (wpS_mono (dh3 (lo:=lo) (nrem:=a0.size - lo) C (by omega) (by omega) B') ?_);rintro r t1 ⟨n,rfl,B1,n1,n2,u1,k1,p1⟩
   have cv1:C3 rk (arrOf t1) (pendingOf t1).toList 0 lo:=by rw[p1];exact C3.kept k1 cv (.inl (ds4 _))
   clear k1 p1;refine A9 (fun y=> ?_) (fun y=> ?_);have y:n < mr:=y;refine wpS_bind (wpS_lift (wpAny_rule ⟨rfl,?_⟩));refine wpS_bind (dh2 (lo:=lo) (n:=min (a0.size - lo) mr) (ok:=n) C (by omega) (by omega) B1 u1 fun t2 B2 u2 k2 p2=> ?_);refine A9 (fun h=>absurd h (by decide)) (fun _=> ?_)
   have cv2:C3 rk (arrOf t2) (pendingOf t2).toList 0 lo:=by rw[p2];exact C3.kept k2 cv1 (.inl (ds4 _))
   have N1:1<=min (a0.size - lo) mr:=by omega
   have N2:lo+min (a0.size - lo) mr<=a0.size:=by omega
   clear p2 k2;generalize min (a0.size - lo) mr=N at u2 N1 N2 ⊢
   rotate_left
   have N1:1<=n:=n1
   have N2:lo+n<=a0.size:=by omega
   have B2:=B1;have u2:=u1;have cv2:=cv1;generalize t1=t2 at B2 u2 cv2 ⊢;generalize n=N at N1 N2 u2 ⊢
   rotate_left
   all_goals
     refine wpS_bind (wpS_get ?_)
     cases hb:(pendingOf t2).back? with
     |none=>
      exact wpS_bind (wpS_modify (wpS_pure ⟨lo+N,rfl,⟨B2.perm,B2.kind,B2.ok⟩,cs2 cv2 N1 u2,N2,by omega⟩))
     |some q=>
      obtain ⟨s1,m1,pw⟩:=q
      refine wpS_bind (wpS_mono (wpS_forRange (I:=fun y c t=>c=(none,())/\Bs a0 κ t/\C3 rk (arrOf t) (pendingOf t).toList 0 lo/\Up rk (arrOf t) lo (lo+N))
        (Q:=fun c t=>c=(none,())/\Bs a0 κ t/\C3 rk (arrOf t) (pendingOf t).toList 0 lo/\Up rk (arrOf t) lo (lo+N)) ?_ (fun _ _ h=>h) ⟨rfl,B2,cv2,u2⟩) ?_)
      · rintro y c t3 _ yn ⟨rfl,B3,cv3,u3⟩;refine wpS_bind (wpS_get ?_)
        by_cases g:(pendingOf t3).size > 1
        · rw[if_pos g,ef4 (show (pendingOf t3).size - 2 < (pendingOf t3).size by omega)];refine A9 (fun _=>wpS_pure ⟨rfl,B3,cv3,u3⟩) (fun _=> ?_);refine wpS_bind (cm5 C B3 cv3 (by omega) (by omega) fun t4 B4 cv4 sz k4=> ?_);refine A9 (fun h=>absurd h (by decide)) (fun _=> ?_);exact wpS_pure ⟨rfl,B4,cv4,k4.up u3 (.inr (ds4 _))⟩
        · rw[if_neg g];exact wpS_pure ⟨rfl,B3,cv3,u3⟩
      · rintro c t3 ⟨rfl,B3,cv3,u3⟩;refine wpS_bind (wpS_modify (wpS_bind (wpS_modify (wpS_pure ⟨lo+N,rfl,⟨B3.perm,B3.kind,B3.ok⟩,?_,N2,by omega⟩))));show C3 rk (arrOf t3) (dz7 (Array.push (Array.modify (pendingOf t3) _ _) (lo,N,0))) 0 (lo+N);rw[ef6,Array.toList_modify];exact C3.app.mpr ⟨lo,ca0 cv3,rfl,N1,u3,rfl⟩
 case post=>
   rintro c t ⟨lo,rfl,B',cv,rfl⟩
   dsimp only
   have lc:=C3.len cv
   refine wpS_bind (wpS_mono (wpS_forRange (I:=fun x c t=>c=(none,())/\Bs a0 κ t/\C3 rk (arrOf t) (pendingOf t).toList 0 a0.size/\((pendingOf t).size<=1\/(pendingOf t).size+x<=a0.size))
     (Q:=fun c t=>c=(none,())/\Bs a0 κ t/\C3 rk (arrOf t) (pendingOf t).toList 0 a0.size/\(pendingOf t).size<=1) ?stepE ?finE ⟨rfl,B',cv,.inr (by rw[<-du5];omega)⟩) ?postE)
   case finE=>
     rintro c t ⟨rfl,B',cv,z⟩;exact ⟨rfl,B',cv,by omega⟩
   case stepE=>
     rintro x c t _ xn ⟨rfl,B',cv,z⟩;refine wpS_bind (wpS_get ?_);refine A9 (fun y=>wpS_pure ⟨rfl,B',cv,y⟩) (fun y=> ?_);have y:¬(pendingOf t).size<=1:=y;refine wpS_bind (cm5 C B' cv (ds4 _) ?_ fun t2 B2 cv2 sz _=> ?_)
     · exact dw0 (Nat.succ_le_succ (dm2 (n:=(pendingOf t).size - 2) (by omega) (ds4 _))) (by omega)
     · exact wpS_pure ⟨rfl,B2,cv2,by omega⟩
   case postE=>
     rintro c t ⟨rfl,B',cv,z⟩;refine wpS_pure (h t B' ?_);obtain ⟨l,hl⟩:∃l,l=(pendingOf t).toList:=⟨_,rfl⟩
     have ll:l.length<=1:=by rw[hl,du5];exact z
     rw[<-hl] at cv
     match l,ll,cv with
     |[],_,cv=>have:0=a0.size:=cv;omega
     |[q],_,⟨c1,c2,c3,c4⟩=>
      have c4:0+q.2.1=a0.size:=c4;rw[c4] at c3;exact c3
end
end TS
namespace L2
open PySem PySem.Spec PyProof.Rows
section
variable {prog:Program} {w:World} {A:Around} {E:Value->Shared->Prop} {s:Shared}
structure ad3 (prog:Program)(w:World)(A:Around)(s:Shared)(rk:Value->Nat)(vs:List Value):Prop where
 kind:2<=vs.length->∀(Q:SortKind->Shared->Prop) (E:Value->Shared->Prop),Q oneType' s->wpAny (model prog w) A (keyKind' vs.toArray) Q E s
 less:∀x∈vs,∀y∈vs,∀(Q:Bool->Shared->Prop) (E:Value->Shared->Prop),Q (decide (rk x < rk y)) s->wpAny (model prog w) A (oneLt' true x y) Q E s
theorem be3 {vs:List Value}{p:Keyed}(h:p∈(pairsOf vs).toList):p.1∈vs/\p.2=p.1:=by
 rw[pairsOf_toList] at h;obtain ⟨i,hi⟩:=dv7.mp h;obtain ⟨x,y⟩:=p;rw[List.getElem?_zip_eq_some] at hi;obtain ⟨e1,e2⟩:=hi;rw[e1] at e2;exact ⟨dt2 e1,(Option.some.inj e2).symm⟩
theorem cm6 {rk:Value->Nat}{vs:List Value}{xs:Array Keyed}(hp:xs.Perm (pairsOf vs))(u:TS.Up (fun p=>rk p.1) xs 0 xs.size):(xs.map (·.2)).toList.Perm vs/\(xs.map (·.2)).toList.Pairwise (fun x y=>rk x<=rk y):=by
 have pl:=eb3.mp hp
 have e:xs.toList.map (·.2)=xs.toList.map (·.1):=dx6 fun p hp'=>(be3 (pl.mem_iff.mp hp')).2
 rw[en2];constructor
 · refine (pl.map _).trans ?_;rw[<-en2,bi7]
 · show List.Pairwise _ (xs.toList.map (·.2));rw[e];exact eb6.mpr (TS.do3 u)
theorem cx4 {rk:Value->Nat}{vs:List Value}(h:ad3 prog w A s rk vs):TS.Cm prog w A s oneType' (fun p=>rk p.1) (pairsOf vs):=fun x hx y hy Q E' q=>by
 rw[keyLt'_oneType];exact h.less x.1 (be3 hx).1 y.1 (be3 hy).1 Q E' q
theorem dm3 {a:Addr}{vs:List Value}{rk:Value->Nat}{n:Nat}{P:Fin->Shared->Prop}(ho:s.heap.get? a=some (seqObj "list" vs.toArray n))(hl:vs.length<=sizeLine)
   (ok:∀h':Heap,(∀b o,b≠a->s.heap.get? b=some o->h'.get? b=some o)->ad3 prog w A {s with heap:=h'} rk vs)
   (h:∀out:List Value,out.Perm vs->out.Pairwise (fun x y=>rk x<=rk y)->P (.done (.ret .none)) {s with heap:=sortedHeap s.heap a vs out.toArray}):wpAny (model prog w) A (Builtin.«list.sort» ⟨[.ref a],[]⟩) P E s:=by
 rw[list_sort_plain];have ha:a < s.heap.objs.size:=Heap.lt_size ho
 have hsz:vs.toArray.size=vs.length:=by simp
 refine wpAny_bind (listItems_at ho rfl ?_);refine wpAny_bind (listUpdate_at ho rfl ?_ (by rw[hsz];exact hl) (du3 _));obtain ⟨e1,ho1⟩:∃e1,(s.heap.update a (Obj.mapSeq fun _=> #[])).get? a=some (seqObj "list" #[] e1):=⟨_,get?_update_seq ho (fun _=> #[])⟩;refine wpAny_bind (seqEpoch_at ho1 rfl ?_);refine wpAny_bind (wpAny_newTuple ?_ (hsz:=hl));refine wpAny_bind (wpAny_newList ?_);refine wpAny_holding ?_;obtain ⟨H6,e6⟩:∃H6,H6=((s.heap.update a (Obj.mapSeq fun _=> #[])).push (seqObj "tuple" vs.toArray 0)).push (seqObj "list" #[] 0):=⟨_,rfl⟩
 have ho6:H6.get? a=some (seqObj "list" #[] e1):=by
   rw[e6,Heap.get?_push_ne _ _ _ (by rw[size_push',Heap.size_update];exact dw3 (ef3 ha)),Heap.get?_push_ne _ _ _ (by rw[Heap.size_update];exact dw3 ha)];exact ho1
 have old:∀b o,b≠a->s.heap.get? b=some o->H6.get? b=some o:=by
   intro b o nb hb;rw[e6];refine Heap.get?_push_of_some _ (Heap.get?_push_of_some _ ?_);rw[Heap.get?_update_ne _ _ _ _ nb];exact hb
 have ok6:=ok H6 old;show wpAny (model prog w) A _ P E {s with heap:=((s.heap.update a (Obj.mapSeq fun _=> #[])).push (seqObj "tuple" vs.toArray 0)).push (seqObj "list" #[] 0)};unfold sortedHeap at h;rw[<-e6] at h ⊢
 dsimp only
 by_cases h2:vs.toArray.size < 2
 · rw[if_pos h2,if_pos h2];refine wpAny_bind (wpAny_pure ?_);rw[StateT.run_pure];refine wpAny_bind (wpAny_pure ?_)
   dsimp only
   refine wpAny_bind (seqEpoch_at ho6 rfl ?_);have ee:(arrOf (SortSt.mk' general' (vs.toArray.zip vs.toArray) #[] 7 none)).map (·.2)=vs.toArray:=bi7 vs;rw[ee];refine wpAny_bind (listUpdate_at ho6 rfl ?_ (du3 _) (by rw[hsz];omega));simp only[bne_self_eq_false,ea4,if_false];refine wpAny_pure (h vs (List.Perm.refl _) ?_)
   match vs,hsz,h2 with
   |[],_,_=>exact List.Pairwise.nil
   |[_],_,_=>exact eg2 _ _
   |_::_::_,_,h2=>simp at h2;omega
 · rw[if_neg h2,if_neg h2];refine wpAny_bind (ok6.kind (by omega) _ _ ?_)
   refine wpAny_bind (wpAny_mono (TS.dq9 (s:={s with heap:=H6}) (st:=SortSt.mk' oneType' (vs.toArray.zip vs.toArray) #[] 7 none) (a0:=pairsOf vs) (rk:=fun p=>rk p.1)
     (Q:=fun _ st'=>(arrOf st').Perm (pairsOf vs)/\failedOf st'=none/\TS.Up (fun p=>rk p.1) (arrOf st') 0 (pairsOf vs).size) (cx4 ok6) ⟨Array.Perm.refl _,rfl,rfl⟩ rfl (by rw[pairsOf_size];omega) fun t B u=>⟨B.perm,B.ok,u⟩) ?_ fun _ _ e=>e)
   rintro ⟨⟨⟩,st'⟩ s' ⟨rfl,hp,hf,hu⟩
   dsimp only
   rw[<-hp.size_eq] at hu;obtain ⟨o1,o2⟩:=cm6 hp hu;refine wpAny_bind (seqEpoch_at ho6 rfl ?_);refine wpAny_bind (listUpdate_at ho6 rfl ?_ (du3 _) (by rw[eo4,hp.size_eq,pairsOf_size];omega));rw[hf];simp only[bne_self_eq_false,ea4,if_false];have:=h _ o1 o2;rw[Array.toArray_toList] at this;exact wpAny_pure this
theorem db0 {l:Addr}{vs:List Value}{rk:Value->Nat}{Q:Value->Shared->Prop}(pl:s.heap.IsList l vs.toArray)(hl:vs.length<=sizeLine)
   (ok:∀h':Heap,(∀b o,b < s.heap.objs.size->s.heap.get? b=some o->h'.get? b=some o)->ad3 prog w A.in1.in1 {s with heap:=h'} rk vs)
   (h:∀out:List Value,out.Perm vs->out.Pairwise (fun x y=>rk x<=rk y)->Q (.ref (s.heap.objs.size+1)) {s with heap:=sortedAll s.heap vs out.toArray}):wpAny (model prog w) A (call (.builtin "sorted") [.ref l]) Q E s:=by
 refine Calls.call_function_entry kind_sorted plain_sorted entry_sorted (args_sorted1 _) ?_;unfold Builtin.«sorted»;refine wpAny_bind (m:=checkCount "sorted" 1 1 _) (wpAny_pure ?_);refine wpAny_bind (collect_list pl ?_ hl);refine wpAny_bind (wpAny_newList ?_ (hsz:=hl))
 have hsz:((s.heap.push (seqObj "list" #[] 0)).update s.heap.objs.size (Obj.mapSeq (· ++vs.toArray))).objs.size=s.heap.objs.size+1:=by
   rw[Heap.size_update,size_push']
 have hoL:(((s.heap.push (seqObj "list" #[] 0)).update s.heap.objs.size (Obj.mapSeq (· ++vs.toArray))).push (seqObj "list" vs.toArray 0)).get? (s.heap.objs.size+1)=some (seqObj "list" vs.toArray 0):=by
   rw[<-hsz];exact Heap.get?_push_size _ rfl
 show wpAny _ _ _ _ _ {s with heap:=((s.heap.push (seqObj "list" #[] 0)).update s.heap.objs.size (Obj.mapSeq (· ++vs.toArray))).push (seqObj "list" vs.toArray 0)};rw[hsz];refine wpAny_bind (wpAny_holding (wpAny_call_entry slot_list_sort ⟨_,hoL,rfl⟩ entry_list_sort (dm3 hoL hl (rk:=rk) (fun h' old=>ok h' fun b o lt e=>old b o (dw3 (ef3 lt)) ?_) fun out o1 o2=>⟨_,rfl,?_⟩) (args_list_sort _)))
 · refine Heap.get?_push_of_some _ ?_;rw[Heap.get?_update_ne _ _ _ _ (dw3 lt)];exact Heap.get?_push_of_some _ e
 · exact wpAny_pure ⟨_,rfl,h out o1 o2⟩
end
end L2
namespace L2
open PySem PySem.Spec PyProof.Rows
section
variable {α:Type}
theorem ak6 {p q:α->Bool}(h:∀a,p a=true->q a=true):∀{l:List α} {x:α},x∈l->p x=false->q x=true->l.countP p < l.countP q
 |[],x,hx,_,_=>by cases hx
 |y::l,x,hx,px,qx=>by
  have le:l.countP p<=l.countP q:=List.countP_mono_left fun a _=>h a
  rw[ed0,ed0]
  by_cases e:x=y
  · subst e;rw[px,qx];simp;omega
  · have hx':x∈l:=by
      rcases dt7.mp hx with z|z
      · exact absurd z e
      · exact z
    have:=ak6 h hx' px qx
    cases hp:p y with
    |false=>simp;split<;>omega
    |true=>rw[h y hp];simp;omega
def Y9 (lt:α->α->Bool)(l:List α)(x:α):Nat:=l.countP fun y=>lt y x
theorem ca1 {lt:α->α->Bool}(ir:∀a,lt a a=false)(tr:∀a b c,lt a b=true->lt b c=true->lt a c=true)(tot:∀a b,lt a b=false->lt b a=true\/a=b){l:List α}{x y:α}(hx:x∈l)(hy:y∈l):decide (Y9 lt l x < Y9 lt l y)=lt x y:=by
 unfold Y9
 cases h:lt x y with
 |true=>exact decide_eq_true (ak6 (fun a ha=>tr a x y ha h) hx (ir x) h)
 |false=>
  refine decide_eq_false ?_
  rcases tot x y h with z|z
  · have:=ak6 (fun a ha=>tr a y x ha z) hy (ir y) z;omega
  · rw[z];omega
theorem ca2 {lt:α->α->Bool}(ir:∀a,lt a a=false)(tr:∀a b c,lt a b=true->lt b c=true->lt a c=true){l:List α}{x y:α}(hy:y∈l)(h:Y9 lt l x<=Y9 lt l y):lt y x=false:=by
 cases z:lt y x with
 |false=>rfl
 |true=>
  have:=ak6 (l:=l) (fun a ha=>tr a y x ha z) hy (ir y) z;unfold Y9 at h;omega
end
theorem be4:∀a:List Int,HT.aq4 a a=false
 |[]=>rfl
 |x::a=>by rw[HT.cd0,if_pos rfl];exact be4 a
theorem ca3:∀a b:List Int,HT.aq4 a b=false->HT.aq4 b a=true\/a=b
 |[],[],_=> .inr rfl
 |[],_::_,h=>by rw[HT.cy7] at h;cases h
 |_::_,[],_=> .inl rfl
 |x::a,y::b,h=>by
  rw[HT.cd0] at h ⊢
  by_cases e:x=y
  · rw[if_pos e] at h;rw[if_pos e.symm]
    rcases ca3 a b h with z|z
    · exact .inl z
    · exact .inr (by rw[e,z])
  · rw[if_neg e] at h;rw[if_neg (fun z=>e z.symm)];have:=of_decide_eq_false h;exact .inl (decide_eq_true (by omega))
theorem br0:∀a b c:List Int,HT.aq4 a b=true->HT.aq4 b c=true->HT.aq4 a c=true
 |[],[],_,h,_=>by cases h
 |_::_,[],_,h,_=>by cases h
 |_,_::_,[],_,h=>by cases h
 |[],_::_,_::_,_,_=>rfl
 |x::a,y::b,z::c,h,g=>by
  rw[HT.cd0] at h g ⊢
  by_cases e:x=y
  · subst e;rw[if_pos rfl] at h
    by_cases e2:x=z
    · subst e2;rw[if_pos rfl] at g ⊢;exact br0 a b c h g
    · rw[if_neg e2] at g ⊢;exact g
  · rw[if_neg e] at h;have h1:=of_decide_eq_true h
    by_cases e2:y=z
    · subst e2;rw[if_neg e];exact h
    · rw[if_neg e2] at g;have g1:=of_decide_eq_true g;rw[if_neg (by omega)];exact decide_eq_true (by omega)
section
variable {prog:Program} {w:World} {A:Around} {E:Value->Shared->Prop} {s:Shared}
theorem cm7 (hu:A.units < cLine){x y:Value}{ns ms:List Int}(hx:af3 s.heap x ns)(hy:af3 s.heap y ms){Q:Bool->Shared->Prop}(q:Q (HT.aq4 ns ms) s):wpAny (model prog w) A (oneLt' true x y) Q E s:=by
 obtain ⟨p,xs,n,rfl,ox,ix⟩:=hx;obtain ⟨p2,ys,m,rfl,oy,iy⟩:=hy;rw[oneLt'_eq];simp only[if_true];refine wpAny_bind (wpAny_cRoomFor hu ?_);refine wpAny_bind (wpAny_callSpecialIfBound?_slot (T:="list") ⟨_,ox,rfl⟩ PySem.F.slot_list_lt (call_meets PySem.F.slot_list_lt ⟨_,ox,rfl⟩ PySem.F.entry_list_lt (PySem.F.args_list_lt_2 _ _) (HT.dh1 p p2 xs ys n m ns ms ix iy) ⟨⟨ox,oy⟩,?_⟩));exact wpAny_truthy_bool q
def adr:Value->Addr
 | .ref a=>a
 |_=>0
theorem bj2:∀{bs:List Addr} {us:List Value},m8 (bs.map V.ref) us->us=bs.map Value.ref
 |[],us,h=>by cases h;rfl
 |b::bs,us,h=>by
  cases h with
  |cons h1 h2=>
   cases h1;rw[bj2 h2];rfl
theorem bj3:∀bs:List Addr,m8 (bs.map V.ref) (bs.map Value.ref)
 |[]=> .nil
 |b::bs=> .cons rfl (bj3 bs)
theorem cs3 {bs:List Addr}{R:Addr->List Int}(hu:A.units < cLine)(row:∀b∈bs,af3 s.heap (.ref b) (R b)):ad3 prog w A s (fun v=>Y9 HT.aq4 (bs.map R) (R (adr v))) (bs.map Value.ref):=by
 constructor
 · intro h2 Q E q
   match bs,h2,row with
   |[],h2,_=>simp at h2
   |[_],h2,_=>simp at h2
   |b1::b2::bs,_,row=>
    have hr:∀v,v∈Value.ref b1::Value.ref b2::bs.map Value.ref->∃ns,af3 s.heap v ns:=fun v hv=>by
      obtain ⟨b,hb,rfl⟩:=dt0.mp (show v∈(b1::b2::bs).map Value.ref from hv);exact ⟨_,row b hb⟩
    exact cl9 hr q
 · intro x hx y hy Q E q;obtain ⟨b,hb,rfl⟩:=dt0.mp hx;obtain ⟨c,hc,rfl⟩:=dt0.mp hy;refine cm7 hu (row b hb) (row c hc) ?_;have:=ca1 be4 br0 ca3 (l:=bs.map R) (dt0.mpr ⟨b,hb,rfl⟩) (dt0.mpr ⟨c,hc,rfl⟩);show Q (HT.aq4 (R b) (R c)) s;rw[<-this];exact q
theorem cs4 {vs:List Value}{ns:List Int}(h:IntsAre vs ns):ad3 prog w A s (fun v=>Y9 (fun a b:Int=>decide (a < b)) ns (numOf v)) vs:=by
 constructor
 · intro h2 Q E q
   match vs,h2,h with
   |[],h2,_=>simp at h2
   |[_],h2,_=>simp at h2
   |v1::v2::vs,_,h=>rw[keyKind_ints h];exact wpAny_pure q
 · intro x hx y hy Q E q;obtain ⟨a,t,rfl⟩:=h.all x hx;obtain ⟨b,u,rfl⟩:=h.all y hy
   have mx:∀{v:Int} {t:Tok},Value.int v t∈vs->v∈ns:=fun {v t} hv=>by
     rw[<-h.nums];exact dt0.mpr ⟨_,hv,rfl⟩
   refine oneLt_int ?_
   have:=ca1 (lt:=fun a b:Int=>decide (a < b)) (fun a=>decide_eq_false (Int.lt_irrefl a)) (fun a b c h1 h2=>decide_eq_true (Int.lt_trans (of_decide_eq_true h1) (of_decide_eq_true h2))) (fun a b h=>by
     have:=of_decide_eq_false h
     by_cases e:a=b
     · exact .inr e
     · exact .inl (decide_eq_true (by omega))) (l:=ns) (mx hx) (mx hy)
   rw[<-this];exact q
end
end L2
namespace L2
open PySem PySem.Spec PyProof.Rows
section
variable {prog:Program} {w:World} {A:Around} {E:Value->Shared->Prop} {s:Shared}
theorem di0 {a:Addr}{vs:List Value}{rk:Value->Nat}{n:Nat}{P:Fin->Shared->Prop}(ho:s.heap.get? a=some (seqObj "list" vs.toArray n))(hl:vs.length<=sizeLine)
   (ok:∀h':Heap,(∀b o,b≠a->s.heap.get? b=some o->h'.get? b=some o)->ad3 prog w A {s with heap:=h'} rk vs)
   (h:∀out:List Value,out.Perm vs->out.Pairwise (fun x y=>rk x≥rk y)->P (.done (.ret .none)) {s with heap:=sortedHeap s.heap a vs out.toArray}):wpAny (model prog w) A (Builtin.«list.sort» ⟨[.ref a],[(Str.ofString "reverse",.bool true)]⟩) P E s:=by
 rw[list_sort_rev];have ha:a < s.heap.objs.size:=Heap.lt_size ho
 have hsz:vs.toArray.size=vs.length:=by simp
 refine wpAny_bind (listItems_at ho rfl ?_);refine wpAny_bind (listUpdate_at ho rfl ?_ (by rw[hsz];exact hl) (du3 _));obtain ⟨e1,ho1⟩:∃e1,(s.heap.update a (Obj.mapSeq fun _=> #[])).get? a=some (seqObj "list" #[] e1):=⟨_,get?_update_seq ho (fun _=> #[])⟩;refine wpAny_bind (seqEpoch_at ho1 rfl ?_);refine wpAny_bind (wpAny_newTuple ?_ (hsz:=hl));refine wpAny_bind (wpAny_newList ?_);refine wpAny_holding ?_;obtain ⟨H6,e6⟩:∃H6,H6=((s.heap.update a (Obj.mapSeq fun _=> #[])).push (seqObj "tuple" vs.toArray 0)).push (seqObj "list" #[] 0):=⟨_,rfl⟩
 have ho6:H6.get? a=some (seqObj "list" #[] e1):=by
   rw[e6,Heap.get?_push_ne _ _ _ (by rw[size_push',Heap.size_update];exact dw3 (ef3 ha)),Heap.get?_push_ne _ _ _ (by rw[Heap.size_update];exact dw3 ha)];exact ho1
 have old:∀b o,b≠a->s.heap.get? b=some o->H6.get? b=some o:=by
   intro b o nb hb;rw[e6];refine Heap.get?_push_of_some _ (Heap.get?_push_of_some _ ?_);rw[Heap.get?_update_ne _ _ _ _ nb];exact hb
 have ok6:=ok H6 old;show wpAny (model prog w) A _ P E {s with heap:=((s.heap.update a (Obj.mapSeq fun _=> #[])).push (seqObj "tuple" vs.toArray 0)).push (seqObj "list" #[] 0)};unfold sortedHeap at h;rw[<-e6] at h ⊢
 dsimp only
 rw[if_pos rfl];refine wpAny_bind (wpAny_rule ?_);simp only[if_true];have pr:(vs.toArray.zip vs.toArray).reverse.Perm (pairsOf vs):=eb3.mpr (by rw[ed3];exact eh5 _)
 have fin:∀xs:Array Keyed,xs.Perm (pairsOf vs)->TS.Up (fun p=>rk p.1) xs 0 xs.size->P (.done (.ret .none)) {s with heap:=H6.update a (Obj.mapSeq fun _=>(xs.map (·.2)).reverse)}:=fun xs hp hu=>by
   obtain ⟨o1,o2⟩:=cm6 hp hu;have:=h ((xs.map (·.2)).toList.reverse) ((eh5 _).trans o1) (ee5.mpr o2);rw[<-ed3,Array.toArray_toList] at this;exact this
 by_cases h2:vs.toArray.size < 2
 · rw[if_pos h2,if_pos h2];refine wpAny_bind (wpAny_pure ?_);rw[StateT.run_pure];refine wpAny_bind (wpAny_pure ?_)
   dsimp only
   refine wpAny_bind (seqEpoch_at ho6 rfl ?_)
   refine wpAny_bind (listUpdate_at ho6 rfl ?_ (du3 _) (by
     rw[Array.size_reverse,eo4];show (vs.toArray.zip vs.toArray).reverse.size<=_
     rw[pr.size_eq,pairsOf_size];omega))
   simp only[bne_self_eq_false,ea4,if_false];refine wpAny_pure (fin _ pr ?_);intro i j _ hij hj
   have:(vs.toArray.zip vs.toArray).reverse.size=vs.length:=by rw[pr.size_eq,pairsOf_size]
   have hj':j < (vs.toArray.zip vs.toArray).reverse.size:=hj;rw[show i=j by omega];exact ds4 _
 · rw[if_neg h2,if_neg h2];refine wpAny_bind (ok6.kind (by omega) _ _ ?_)
   refine wpAny_bind (wpAny_mono (TS.dq9 (s:={s with heap:=H6}) (st:=SortSt.mk' oneType' (vs.toArray.zip vs.toArray).reverse #[] 7 none) (a0:=pairsOf vs) (rk:=fun p=>rk p.1)
     (Q:=fun _ st'=>(arrOf st').Perm (pairsOf vs)/\failedOf st'=none/\TS.Up (fun p=>rk p.1) (arrOf st') 0 (pairsOf vs).size) (cx4 ok6) ⟨pr,rfl,rfl⟩ rfl (by rw[pairsOf_size];omega) fun t B u=>⟨B.perm,B.ok,u⟩) ?_ fun _ _ e=>e)
   rintro ⟨⟨⟩,st'⟩ s' ⟨rfl,hp,hf,hu⟩
   dsimp only
   rw[<-hp.size_eq] at hu;refine wpAny_bind (seqEpoch_at ho6 rfl ?_);refine wpAny_bind (listUpdate_at ho6 rfl ?_ (du3 _) (by rw[Array.size_reverse,eo4,hp.size_eq,pairsOf_size];omega));rw[hf];simp only[bne_self_eq_false,ea4,if_false];exact wpAny_pure (fin _ hp hu)
theorem cs5 {l:Addr}{vs:List Value}{rk:Value->Nat}{Q:Value->Shared->Prop}(pl:s.heap.IsList l vs.toArray)(hl:vs.length<=sizeLine)
   (ok:∀h':Heap,(∀b o,b < s.heap.objs.size->s.heap.get? b=some o->h'.get? b=some o)->ad3 prog w A.in1.in1 {s with heap:=h'} rk vs)
   (h:∀out:List Value,out.Perm vs->out.Pairwise (fun x y=>rk x≥rk y)->Q (.ref (s.heap.objs.size+1)) {s with heap:=sortedAll s.heap vs out.toArray}):wpAny (model prog w) A (call (.builtin "sorted") [.ref l] [(Str.ofString "reverse",.bool true)]) Q E s:=by
 refine call_function_entry_kw kind_sorted plain_sorted entry_sorted (args_sorted_rev _ _) ?_;unfold Builtin.«sorted»;refine wpAny_bind (m:=checkCount "sorted" 1 1 _) (wpAny_pure ?_);refine wpAny_bind (collect_list pl ?_ hl);refine wpAny_bind (wpAny_newList ?_ (hsz:=hl))
 have hsz:((s.heap.push (seqObj "list" #[] 0)).update s.heap.objs.size (Obj.mapSeq (· ++vs.toArray))).objs.size=s.heap.objs.size+1:=by
   rw[Heap.size_update,size_push']
 have hoL:(((s.heap.push (seqObj "list" #[] 0)).update s.heap.objs.size (Obj.mapSeq (· ++vs.toArray))).push (seqObj "list" vs.toArray 0)).get? (s.heap.objs.size+1)=some (seqObj "list" vs.toArray 0):=by
   rw[<-hsz];exact Heap.get?_push_size _ rfl
 show wpAny _ _ _ _ _ {s with heap:=((s.heap.push (seqObj "list" #[] 0)).update s.heap.objs.size (Obj.mapSeq (· ++vs.toArray))).push (seqObj "list" vs.toArray 0)};rw[hsz];refine wpAny_bind (wpAny_holding (wpAny_call_entry_kw slot_list_sort ⟨_,hoL,rfl⟩ entry_list_sort (di0 hoL hl (rk:=rk) (fun h' old=>ok h' fun b o lt e=>old b o (dw3 (ef3 lt)) ?_) fun out o1 o2=>⟨_,rfl,?_⟩) (args_list_sort_rev _ _)))
 · refine Heap.get?_push_of_some _ ?_;rw[Heap.get?_update_ne _ _ _ _ (dw3 lt)];exact Heap.get?_push_of_some _ e
 · exact wpAny_pure ⟨_,rfl,h out o1 o2⟩
end
theorem cm8 {vs out:List Value}{ns:List Int}(h:IntsAre vs ns)(p:out.Perm vs):∃ms,IntsAre out ms/\ms.Perm ns/\ms=out.map numOf:=by
 refine ⟨out.map numOf,intsAre_map out fun v hv=>h.all v (p.mem_iff.mp hv),?_,rfl⟩;rw[<-h.nums];exact p.map numOf
section
variable {X:Cx}
theorem cs6 {ns ms:List Int}{out:List Value}(pm:ms.Perm ns)(em:ms=out.map numOf)(o2:out.Pairwise (fun x y=>Y9 (fun a b:Int=>decide (a < b)) ns (numOf x)<=Y9 (fun a b:Int=>decide (a < b)) ns (numOf y))):ms.Pairwise (· <= ·):=by
 rw[em];refine eb6.mpr (List.Pairwise.imp_of_mem (fun {x y} hx hy h=> ?_) o2);have my:numOf y∈ns:=pm.mem_iff.mp (by rw[em];exact dt0.mpr ⟨y,hy,rfl⟩);have:=ca2 (lt:=fun a b:Int=>decide (a < b)) (fun a=>decide_eq_false (Int.lt_irrefl a)) (fun a b c h1 h2=>decide_eq_true (Int.lt_trans (of_decide_eq_true h1) (of_decide_eq_true h2))) my h;have:=of_decide_eq_false this;omega
theorem br1 (hu:X.A.in1.in1.units < cLine):K9 X (.builtin "sorted") (fun xs H Q=>∃(p:Addr) (bs:List Addr) (rs:List (List Int)),xs=[.ref p]/\i5 X.K H p (bs.map V.ref)/\m9 H bs rs/\
   ∀(cs:List Addr) (ts:List (List Int)) l,cs.Perm bs->ts.Perm rs->m9 H cs ts->ts.Pairwise (fun r r'=>HT.aq4 r' r=false)->H l=none->Q (.ref l) (c9 H l (.lst (cs.map V.ref)))):=by
 intro pins s σ H xs us Q I r h;obtain ⟨p,bs,rs,rfl,hp,hr,q⟩:=h;obtain ⟨u,rfl,rx⟩:=Q2 r;cases rx;obtain ⟨its,rv,pl,hl⟩:=I.list hp;have ev:=bj2 rv;subst ev
 have rows:∀b∈bs,∃r:List Int,H b=some (.lst (r.map V.int)):=fun b hb=>by
   obtain ⟨j,hj⟩:=dv7.mp hb
   have hjl:j < rs.length:=by rw[<-hr.1];exact (ds3.mp hj).1
   exact ⟨_,hr.2 j b _ hj (ds2 hjl)⟩
 have er:=cd9 hr
 have each:∀h':Heap,(∀b o,b < s.heap.objs.size->s.heap.get? b=some o->h'.get? b=some o)->∀b∈bs,af3 h' (.ref b) (U4 H b):=by
   intro h' old b hb;obtain ⟨r,e⟩:=rows b hb;obtain ⟨_,its,n,v,g⟩:=(show q9 X.prog X.w H s.heap b (.lst (r.map V.int)) from I.hok b _ e);rw[av4 e];exact ⟨b,its.toArray,n,rfl,old b _ (Heap.lt_size g) g,by simpa using aj8 v⟩
 have hll:(bs.map V.ref).length=bs.length:=ds1 ..
 refine db0 (rk:=fun v=>Y9 HT.aq4 (bs.map (U4 H)) (U4 H (adr v))) pl.isList (by rw[ds1];omega) (fun h' old=>cs3 hu (each h' old)) fun out o1 o2=> ?_
 have eo:out=(out.map adr).map Value.ref:=by
   rw[dw5];refine (ek3 out).symm.trans (dx6 fun v hv=> ?_);obtain ⟨b,_,rfl⟩:=dt0.mp (o1.mem_iff.mp hv);rfl
 have pb:(out.map adr).Perm bs:=by
   have:=o1.map adr;rw[dw5] at this;have e2:bs.map (adr∘Value.ref)=bs:=(dx6 fun b _=>rfl).trans (ek3 bs);rw[e2] at this;exact this
 have st:((out.map adr).map (U4 H)).Pairwise (fun r r'=>HT.aq4 r' r=false):=by
   rw[dw5];refine eb6.mpr (List.Pairwise.imp_of_mem (fun {x y} hx hy h=> ?_) o2);refine ca2 be4 br0 (l:=bs.map (U4 H)) ?_ h;exact dt0.mpr ⟨adr y,pb.mem_iff.mp (dt0.mpr ⟨y,hy,rfl⟩),rfl⟩
 have rw':m9 H (out.map adr) ((out.map adr).map (U4 H)):=⟨(ds1 ..).symm,fun j a r e1 e2=>by
   rw[ds9,e1] at e2;have:=Option.some.inj e2;obtain ⟨r',e⟩:=rows a (pb.mem_iff.mp (dt2 e1))
   rw[<-this,av4 e];exact e⟩
 have pr:((out.map adr).map (U4 H)).Perm rs:=by rw[<-er];exact pb.map _
 obtain ⟨e,he⟩:=sortedAll_at s.heap (bs.map Value.ref) out.toArray;refine ⟨.ref (s.heap.objs.size+1),_,I.laid (t':=s.toks) (fun _ _ q=>sortedAll_old q) (ei7 _) (show q9 X.prog X.w _ _ _ (.lst ((out.map adr).map V.ref)) from ⟨by rw[ds1,pb.length_eq];omega,out,e,?_,he⟩),rfl,q _ _ _ pb pr rw' st (I.hok.fresh (ei7 _))⟩;have:=bj3 (out.map adr);rw[<-eo] at this;exact this
variable {e:Expr} {t:TA} {p pos kpos:Pos}
def cs7 (K:PySem.W.Frag)(t:TA):TE:=X8 (fun xs H Q=>∃(p:Addr) (bs:List Addr) (rs:List (List Int)),xs=[.ref p]/\i5 K H p (bs.map V.ref)/\m9 H bs rs/\
 ∀(cs:List Addr) (ts:List (List Int)) l,cs.Perm bs->ts.Perm rs->m9 H cs ts->ts.Pairwise (fun r r'=>HT.aq4 r' r=false)->H l=none->Q (.ref l) (c9 H l (.lst (cs.map V.ref)))) t
def cs8 (K:PySem.W.Frag)(t:TA):TE:=X8 (fun xs H Q=>∃(p:Addr) (ns:List Int),xs=[.ref p]/\i5 K H p (ns.map V.int)/\∀(ms:List Int) l,ms.Perm ns->ms.Pairwise (· ≥ ·)->H l=none->Q (.ref l) (c9 H l (.lst (ms.map V.int)))) t
theorem ce7 {j:Nat}{kp:Pos}(K:PySem.W.Frag)(hm:X.mg "sorted"=none)(ha:PA X [e] t)(hK:X.K=K:=by rfl)(hg:Gl X "sorted":=by rfl)
   (he:backTo pos (starEach [e] X.env)=(false,eval e X.env)::backTo pos (starEach [] X.env):=by rfl) (hplain:(backTo pos (starEach [e] X.env)).any (·.1)=false:=by rfl):
   PE X (.Call (.Name "sorted" p) [e] [⟨some "reverse",.Constant (.bool true) j kp,kpos⟩] pos) (cs8 K t):=by
 subst hK;intro pins s σ H Q I h;refine wpAny_Call_Name_kw (X6 I hg hm ac9 ?_ (by decide) (by decide));refine callWith_kw (p6 (ha pos pins s σ H _ I h) fun us s1 ⟨vs,H1,I1,r1,q1⟩=> ?_) he hplain;obtain ⟨a,ns,rfl,hp,q⟩:=q1;obtain ⟨u,rfl,rx⟩:=Q2 r1;cases rx;have hk:PK X [⟨some "reverse",.Constant (.bool true) j kp,kpos⟩] (ay6 (tC (.bl true)) bn5):=cy6 J9 df0
 refine p6 (hk pos pins s1 σ H1 (fun zs H2=>zs=[.bl true]/\H2=H1) I1 ⟨rfl,rfl⟩) fun ws s2 ⟨zs,H2,I2,rz,ez,eH⟩=> ?_
 subst ez eH;obtain ⟨u2,rfl,rx2⟩:=Q2 rz;cases (show u2=Value.bool true from rx2);obtain ⟨its,rv,pl,hl⟩:=I2.list hp;have ia:=aj8 rv;have il:=rv.length
 refine cs5 (rk:=fun v=>Y9 (fun a b:Int=>decide (a < b)) ns (numOf v)) pl.isList (by omega) (fun h' old=>cs4 ia) fun out o1 o2=> ?_
 obtain ⟨ms,i1,i2,i3⟩:=cm8 ia o1
 have hlm:ms.length<=sizeLine:=by rw[i2.length_eq];rw[ds1] at hl;exact hl
 have fal:ms.Pairwise (· ≥ ·):=by
   have e2:ms.reverse=out.reverse.map numOf:=by rw[i3,List.map_reverse]
   have:=cs6 (ms:=ms.reverse) ((eh5 ms).trans i2) e2 (ee5.mpr o2);exact ee5.mp this
 exact ⟨.ref (s2.heap.objs.size+1),_,bw5 I2 (by simpa using i1) hlm,rfl,q ms _ i2 fal (I2.hok.fresh (ei7 _))⟩
theorem bx1 (hu:X.A.units+1+1 < cLine)(hm:X.mg "sorted"=none)(ha:PA X [e] t)(hg:Gl X "sorted":=by rfl)(he:starEach [e] X.env=(false,eval e X.env)::starEach [] X.env:=by rfl):
 PE X (.Call (.Name "sorted" p) [e] [] pos) (cs7 X.K t):=O2 (br1 (by simpa [Around.in1] using hu)) hg hm ac9 ha (by decide) (by decide) he rfl
end
end L2
namespace L2
open PySem PySem.Spec PyProof PyProof.Rows
def dm4 (i j:Int):Prop:=i.natAbs < 2^20000/\j.natAbs < 2^20000
theorem db1 {i j:Int}{n:Nat}(hn:n<=2^20)(h1:i.natAbs < 2^n)(h2:j.natAbs < 2^n):IntMulOk i j:=by
 refine IntMulOk.of_bits ?_ ?_
 · exact dt6 (PySem.intBits_le_iff.mpr h1) hn
 · exact dt6 (PySem.intBits_le_iff.mpr h2) hn
theorem ar5 {X:Cx}:N8 X (binaryOp .Mult) (rI dm4 fun i j=> .int (i*j)):=opI fun _ _ _ _ _ _ _ hc q=>mul_int q (db1 (by decide) hc.1 hc.2)
end L2
namespace L2
open PySem PySem.Spec PyProof.Rows
section
variable {P:Program} {w:World} {K:PySem.W.Frag} {mg:Str->Option Value} {base h:Heap} {x:Str} {st:Stmt} {f:Addr} {fd:FuncData} {ps:List Str} {k:Nat} {sp:Sp}
def Fu (K:PySem.W.Frag)(x:Str)(st:Stmt)(f:Addr):Prop:=∃fd,PySem.W.nsIn K mainGlobals x=some (some (.ref f))/\x6 K x x st f fd
theorem dm5 {oc:Value}{od an:Option Addr}{osl:Array (Option Value)}{kV doc pm cdv ct:Value}(a:PySem.W.nsIn K mainGlobals x=some (some (.ref f)))(l:K.lookup f=some ⟨oc,od,.func (PySem.W.fnOf x x (ab1 st) (W2 st) (j5 st) .none kV doc pm an cdv ct),osl⟩)
 (c:PySem.W.codeIn K cdv x=true) (k:PySem.W.keepIn K (.ref f)=true):Fu K x st f:=⟨_,a,dg1 l c k⟩
theorem o4 (X:K.In h)(G:h.Ns mainGlobals mg)(a:PySem.W.nsIn K mainGlobals x=some (some (.ref f)))(F:x6 K x x st f fd)(b:aj7 K fd ps [])(ok:o7 P w K mg base x5 k f fd ps sp):j7 P w K mg base x k ps sp:=⟨f,fd,PySem.W.mg_of X G a,F.kp,b,ok⟩
def Fre (K:PySem.W.Frag):List Str->Prop
 |[]=>True
 |x::l=>PySem.W.nsIn K mainGlobals x=some none/\Fre K l
end
end L2
namespace L2
open PySem PySem.Spec PyProof PyProof.Rows
section
variable {prog:Program} {w:World} {A:Around} {E:Value->Shared->Prop} {s:Shared}
theorem bl3 (d:Addr)(hd:(d==sysModules)=false):
   MeetsIn prog w (Builtin.«dict.__len__» ⟨[.ref d],[]⟩) (fun _ R s=>∃o es ep,s.heap.get? d=some o/\o.data= .dict es ep/\R (.ok (.ret (.int es.size s.toks))) {s with toks:=s.toks+1}):=
 .of_wp fun A R s ⟨o,es,ep,ho,hdat,h⟩=>by
   show wpAny _ _ (dictSize d >>=_) _ _ s;unfold dictSize;refine wpAny_bind (wpAny_bind (wpAny_dictEntries ho hdat (wpAny_pure ?_)));show wpAny _ _ (Builtin.Dict.pendingCount d >>=_) _ _ s;refine wpAny_bind (wpAny_pendingCount_other hd ?_);refine wpAny_ret_mkInt ?_;rw[ea9];exact h
theorem br2 {d:Addr}{o:Obj}{es:Array DictEntry}{ep:Nat}{Q:Value->Shared->Prop}(hd:(d==sysModules)=false)(ho:s.heap.get? d=some o)(hc:o.ExactDict)(hdat:o.data= .dict es ep)(hfit:(es.size:Int) < 2^63)
   (h:Q (.int es.size (s.toks+1)) {s with toks:=s.toks+1+1}):wpAny (model prog w) A (call (.builtin "len") [.ref d]) Q E s:=by
 have ht:s.TypeIs (.ref d) "dict":=⟨o,ho,hc.1⟩;refine Calls.call_function_entry kind_len plain_len entry_len (args_len1 _) ?_;unfold Builtin.«len»;refine wpAny_bind (m:=oneArg "len" _) (wpAny_pure ?_)
 refine wpAny_bind (m:=callSpecial? (.ref d) (Str.ofString "__len__")) (wpAny_callSpecial?_slot (name:=Str.ofString "__len__") ht F.slot_dict_len
   (call_meetsIn F.slot_dict_len ht F.entry_dict_len (F.args_dict_len_1 _) (bl3 d hd) ⟨o,es,ep,ho,hdat,?_⟩))
 show wpAny _ _ _ _ _ {s with toks:=s.toks+1};refine wpAny_bind (wpAny_holding (wpAny_pure ?_));refine wpAny_bind (wpAny_letGo ?_);show wpAny _ _ (if ((es.size:Nat):Int) < 0 then _ else _) _ _ _;rw[if_neg (by omega)];show wpAny _ _ (if ((es.size:Nat):Int)≥2^63 then _ else _) _ _ _;rw[if_neg (by omega)];exact wpAny_bind (wpAny_mkInt (wpAny_pure ⟨_,rfl,h⟩))
end
section
variable {X:Cx}
theorem ce8:K9 X (.builtin "len") (fun xs H Q=>∃a kvs,xs=[V.ref a]/\H a=some (.dT kvs)/\Q (.int kvs.length) H):=by
 intro pins s σ H xs us Q I r h;obtain ⟨a,kvs,rfl,ha,q⟩:=h;obtain ⟨u,rfl,ru⟩:=Q2 r;cases ru;obtain ⟨z,hd,ys,rel,o,es,ep,ho,hc,hdat,he,hn⟩:=(show q9 X.prog X.w H s.heap a (.dT kvs) from I.hok a _ ha)
 have e:es.size=kvs.length:=by
   have:=congrArg ef7 he;rw[ds1,<-rel.length] at this
   simpa using this
 refine br2 hd ho hc hdat (by rw[e];rw[sizeLine_eq] at z;omega) ?_;rw[e];exact ⟨.int kvs.length,H,I.tok _,⟨_,rfl⟩,q⟩
end
end L2
namespace My
open PySem L2 Mth
def B6 (i:Nat):Stmt:=PySem.Challenge.pw_turnroots_k45_whole_roots_of_all.main.body.getD i (.Pass ⟨0,0,0,0⟩)
abbrev ak7:Stmt:=B6 9
abbrev O7:Stmt:=B6 10
abbrev Z0:Stmt:=B6 11
abbrev U7:Stmt:=B6 12
abbrev ag3:Stmt:=B6 13
abbrev ad4:Stmt:=B6 14
abbrev O8:Stmt:=B6 15
abbrev S7:Stmt:=B6 16
abbrev ak8:Stmt:=B6 17
abbrev U8:Stmt:=B6 18
abbrev ao3:Stmt:=B6 21
abbrev X0:Stmt:=B6 22
abbrev ag4:Stmt:=B6 24
abbrev O9:Stmt:=B6 25
abbrev ag5:Stmt:=B6 26
abbrev Z1:Stmt:=B6 27
abbrev Z2:Stmt:=B6 29
abbrev ad5:Stmt:=B6 30
abbrev ag6:Stmt:=B6 31
abbrev U9:Stmt:=B6 33
abbrev S8:Stmt:=B6 34
abbrev Z3:Stmt:=B6 35
abbrev S9:Stmt:=B6 36
abbrev ag7:Stmt:=B6 37
abbrev Q6:Stmt:=B6 38
abbrev ag8:Stmt:=B6 39
abbrev V0:Stmt:=B6 41
abbrev R3:Stmt:=B6 44
abbrev S3:Stmt:=B6 45
abbrev ak9:Stmt:=B6 46
abbrev ao4:Stmt:=B6 47
abbrev Z4:Stmt:=B6 48
abbrev ag9:Stmt:=B6 49
abbrev Z5:Stmt:=B6 50
abbrev V1:Stmt:=B6 51
abbrev V2:Stmt:=B6 52
abbrev al0:Stmt:=B6 54
abbrev al1:Stmt:=B6 55
abbrev Z6:Stmt:=B6 56
abbrev ah0:Stmt:=B6 58
abbrev Z7:Stmt:=B6 59
abbrev ah1:Stmt:=B6 60
abbrev V3:Stmt:=B6 61
abbrev ar6:Stmt:=B6 62
end My
namespace My
open PySem L2 Mth
structure Bl (mg:Str->Option Value):Prop where
 len:mg "len"=none
 isi:mg "isinstance"=none
 int:mg "int"=none
 bool:mg "bool"=none
 list:mg "list"=none
 range:mg "range"=none
 sum:mg "sum"=none
 min:mg "min"=none
 max:mg "max"=none
 enum:mg "enumerate"=none
 zip:mg "zip"=none
 sorted:mg "sorted"=none
 tuple:mg "tuple"=none
 str:mg "str"=none
 repr:mg "repr"=none
 all:mg "all"=none
 any:mg "any"=none
 set:mg "set"=none
 dict:mg "dict"=none
 ve:mg "ValueError"=none
section
variable {P:Program} {w:World} {K:PySem.W.Frag} {mg:Str->Option Value} {base:Heap}
def ab3 (K:PySem.W.Frag):Sp:=fun vs H Q _=>∃x t b1 b2,vs=[x]/\S4 K H x t/\PySem.W.kitOne K t (.type "int")=some b1/\PySem.W.kitOne K t (.type "bool")=some b2/\Q (.bl (b1&& !b2)) H
theorem db2:l8 ["thing"] ["thing"] (j5 ak7):=by rfl'
theorem cs9 {f:Addr}{fd:FuncData}(F:x6 K "is_whole" "is_whole" ak7 f fd)(B:Bl mg):o7 P w K mg base x5 1 f fd ["thing"] (ab3 K):=by
 refine F.ok db2 (fun vs H Q E h=> ?_) (fun cdv A outer s H vs Q E hr h=> ?_)
 · obtain ⟨x,t,b1,b2,rfl,_⟩:=h;rfl
 · obtain ⟨x,t,b1,b2,rfl,ty,e1,e2,q⟩:=h;refine ⟨_,e7 (l5 (ch4 (ai0 B.isi (c5 (pv 0) (c5 (cq9 B.int) c6))) (ch3 (de1 (ai0 B.isi (c5 (pv 0) (c5 (cj9 B.bool) c6))))))),?_⟩;refine ⟨x,rfl,x,"int",t,b1,rfl,ty,e1,b1,rfl,?_⟩
   cases b1 with
   |true=>
    refine ac6 ⟨x,rfl,x,"bool",t,b2,rfl,ty,e2,b2,rfl,?_⟩;exact q
   |false=>exact G5 q
def al2:Sp:=fun vs H Q _=>∃(a:Addr) (ns:List Int),vs=[.ref a]/\H a=some (.lst (ns.map V.int))/\∀(b:Bool) (H':Hp),e8 H H'->(b=true↔ns.length<=40/\o6 ns)->Q (.bl b) H'
theorem av7:l8 ["thing","seen","place"] ["thing"] (j5 ao3):=by rfl'
theorem cm9 {f:Addr}{fd:FuncData}(F:x6 K "is_turn" "is_turn" ao3 f fd)(B:Bl mg)(mt:∃t,mg "MOST_THINGS"=some (.int 40 t))(cW:j7 P w K mg base "is_whole" 1 ["thing"] (ab3 K)):o7 P w K mg base x5 2 f fd ["thing"] al2:=by
 refine F.ok av7 (fun vs H Q E h=> ?_) (fun cdv A outer s H vs Q E hr h=> ?_)
 · obtain ⟨a,ns,rfl,_⟩:=h;rfl
 · obtain ⟨a,ns,rfl,ha,k⟩:=h;obtain ⟨tk,mt⟩:=mt;have hu:=X1 hr
   refine ⟨_,c7 (y9 (aa1 (K4 (K3 (ai0 B.isi (c5 (pv 0) (c5 (ae9 B.list) c6))))) (ac0 (t6 ay4 (y7 B.len (c5 (pv 0) c6)) (aq2 (v:= .int 40) (by rfl) mt ⟨tk,rfl⟩) (q5 _)))).pt (e7 (l5 J9)) q0)
     (c7 (i6 (i:=1) av7.nd rfl (Or.inl rfl) ac5)
     (c7 (l9 PassesOwn.never rfl (t5 (pv 0)) (i9 (i:=2) av7.nd rfl (Or.inl rfl))
       (c7 (y9 (aa1 (K4 (K3 (i4 cW hr (c5 (pv 2) c6)))) (aa1 (t6 ay2 (pv 2) g7 (q5 _)) (aa1 (t6 cw4 (pv 2) (y7 B.len (c5 (pv 0) c6)) (q5 _)) (ac0 (bm7 (cj0 hu (pv 2) (pv 1))))))).pt (e7 (l5 J9)) q0)
       (e7 (aq7 hu (pv 1) (pv 2) J9 rfl))))
     (e7 (l5 J9)))),?_⟩
   refine ⟨_,rfl,_,"list",_,true,rfl,.lst ha,O3 K "list",true,rfl,?_⟩;refine G5 ⟨_,rfl,a,_,rfl,.inl (i5.of ha),_,_,rfl,rfl,_,rfl,?_⟩;rw[ds1];refine M6 (fun h40=> ?_) (fun h40=> ?_)
   · have h40:(40:Int) < (ns.length:Int):=of_decide_eq_true h40;exact k false H (e8.refl H) ⟨fun z=>(by cases z),fun z=>(by have:=z.1;omega)⟩
   · have h40:¬(40:Int) < (ns.length:Int):=fun z=>h40 (decide_eq_true z)
     intro d hd;have nad:a≠d:=g6 ha hd
     have ha1:(c9 H d (.dK [])) a=some (.lst (ns.map V.int)):=by rw[g8 nad];exact ha
     refine ⟨_,rfl,a,rfl,⟨_,i5.of ha1⟩,w4 (K:=K) (a:=a) (xs:=ns.map V.int) (fun i σ H2=>∃v:Option V,σ=[some (.ref a),some (.ref d),v]/\e8 H H2/\H2 d=some (.dK (Q3 (ns.take i)))/\(ns.take i).Nodup/\∀x∈ns.take i,0<=x/\x < ns.length)
       ⟨none,rfl,e8.upd_new hd,c8,dz9,fun x hx=>by simp at hx⟩ (fun i σ H2 _ zz=>by obtain ⟨_,_,s2,_⟩:=zz;exact i5.of (s2 a _ ha)) ?_ ?_⟩
     · rintro i y σ H2 hi ⟨v,rfl,s2,h2,nd,bd⟩;obtain ⟨z,hz,rfl⟩:=C9 hi;have ha2:=s2 a _ ha;have hil:i < ns.length:=(ds3.mp hz).1;refine ⟨_,rfl,.int z,_,true,false,rfl,.int z,O3 K "int",U2 K,_,rfl,?_⟩;refine G5 ⟨_,rfl,_,_,rfl,rfl,_,rfl,?_⟩;refine M6 (fun hz0=> ?_) (fun hz0=> ?_)
       · have hz0:z < 0:=of_decide_eq_true hz0;exact ac6 (k false H2 s2 ⟨fun q=>(by cases q),fun q=>(by have:=q.2.lo z (dt2 hz);omega)⟩)
       have hz0:¬z < 0:=fun q=>hz0 (decide_eq_true q)
       refine ⟨_,rfl,_,rfl,a,_,rfl,.inl (i5.of ha2),_,_,rfl,rfl,_,rfl,?_⟩;rw[ds1];refine M6 (fun hz1=> ?_) (fun hz1=> ?_)
       · have hz1:(ns.length:Int)<=z:=of_decide_eq_true hz1;exact ac6 (k false H2 s2 ⟨fun q=>(by cases q),fun q=>(by have:=q.2.hi z (dt2 hz);omega)⟩)
       have hz1:¬(ns.length:Int)<=z:=fun q=>hz1 (decide_eq_true q)
       refine ⟨_,rfl,_,rfl,d,_,rfl,U1.k (k:=Sum.inl z) h2,_,rfl,?_⟩
       by_cases hm:z∈ns.take i
       · rw[bo4 hm];refine ac6 (k false H2 s2 ⟨fun q=>(by cases q),fun q=> ?_⟩);exfalso;obtain ⟨j,hj⟩:=dv7.mp hm
         have hjl:j < i:=by
           have:=(ds3.mp hj).1;rw[du1] at this;omega
         rw[dz8 hjl] at hj;have e1:=(ds3.mp hj).2;have e2:=(ds3.mp hz).2;exact dv6.mp (du4.mp q.2.nd) j i (by omega) hil hjl (by rw[e1,e2])
       · rw[av1 hm];refine G5 ⟨_,rfl,_,rfl,d,_,rfl,ag1.k (k:=Sum.inl z) h2 (o9 (by unfold Q3;rw[ds1,du1];omega)),?_⟩
         have hds:∀b o,H b=some o->b≠d:=fun b o e=>g6 e hd
         refine ⟨some (.int z),rfl,fun b o e=>by rw[g8 (hds b o e)];exact s2 b o e,?_,?_,?_⟩
         · rw[bi3 hm,c8,i7 hz]
         · rw[i7 hz];exact aq9 nd hm
         · intro x hx;rw[i7 hz] at hx
           rcases dt4.mp hx with q|q
           · exact bd x q
           · have:x=z:=by simpa using q
             omega
     · rintro σ H2 ⟨v,rfl,s2,h2,nd,bd⟩;rw[ds1,du7] at nd bd;refine k true H2 s2 ⟨fun _=>⟨by omega,⟨nd,fun x hx=>(bd x hx).1,fun x hx=>(bd x hx).2⟩⟩,fun _=>rfl⟩
end
end My
namespace My
open PySem L2 Mth
section
variable {P:Program} {w:World} {K:PySem.W.Frag} {mg:Str->Option Value} {base:Heap}
def R8 (H:Hp)(a:Addr)(p:List Int):Prop:=H a=some (.lst (p.map V.int))/\o6 p/\p.length<=40
end
end My
namespace My
open PySem L2 Mth
section
variable {P:Program} {w:World} {K:PySem.W.Frag} {mg:Str->Option Value} {base:Heap}
def ao5:Sp:=fun vs H Q _=>∃(a:Addr) (ns:List Int),vs=[.ref a]/\R8 H a ns/\∀(H':Hp),e8 H H'->Q .non H'
theorem di1:l8 ["thing"] ["thing"] (j5 X0):=by rfl'
theorem db3 {f:Addr}{fd:FuncData}(F:x6 K "must_be_turn" "must_be_turn" X0 f fd)(cT:j7 P w K mg base "is_turn" 2 ["thing"] al2):o7 P w K mg base x5 3 f fd ["thing"] ao5:=by
 refine F.ok di1 (fun vs H Q E h=> ?_) (fun cdv A outer s H vs Q E hr h=> ?_)
 · obtain ⟨a,ns,rfl,_⟩:=h;rfl
 · obtain ⟨a,ns,rfl,⟨ha,ht,hl⟩,k⟩:=h;refine ⟨_,e7 (y9 (K4 (K3 (i4 cT hr (c5 (pv 0) c6)))) (e7 O1) q0),?_⟩;refine ⟨_,rfl,a,ns,rfl,ha,fun b H' s' hb=>⟨b,rfl,?_⟩⟩;have:b=true:=hb.mpr ⟨hl,ht⟩;subst this;exact G5 (k H' s')
end
end My
namespace My
open PySem L2 Mth
section
variable {P:Program} {w:World} {K:PySem.W.Frag} {mg:Str->Option Value} {base:Heap}
def br3 (K:PySem.W.Frag):Sp:=fun vs H Q _=>∃(a:Addr) (ns:List Int) (k:Int),vs=[.ref a,.int k]/\i5 K H a (ns.map V.int)/\0<=k/\k<=100/\∀(l:Addr) (H':Hp),H l=none->e8 H H'->x4 H' l 4300->Q (.ref l) H'
theorem br4:l8 ["script","k","cell"] ["script","k"] (j5 al0):=by rfl'
theorem db4 {f:Addr}{fd:FuncData}(F:x6 K "_law_pool" "_law_pool" al0 f fd)(B:Bl mg):o7 P w K mg base x5 1 f fd ["script","k"] (br3 K):=by
 refine F.ok br4 (fun vs H Q E h=> ?_) (fun cdv A outer s H vs Q E hr h=> ?_)
 · obtain ⟨a,ns,k,rfl,_⟩:=h;rfl
 · obtain ⟨a,ns,k,rfl,ha,k0,k1,q⟩:=h
   refine ⟨_,c7 (i6 (i:=2) br4.nd rfl (Or.inl rfl) g7)
     (c7 (y9 (t6 ay2 (pv 1) (y7 B.len (c5 (pv 0) c6)) (q5 _)) (e7 (i6 (i:=2) br4.nd rfl (Or.inl rfl) (G9 C1 (pv 0) (pv 1) (fun _ _=>rfl)))) q0)
     (c7 (y9 (t6 cw4 (pv 2) (j6 ah6 g7 g7) (q5 _)) (e7 (l5 (p8 (c5 (j6 ay1 (pv 2) (j6 ah6 g7 g7)) (c5 g7 (c5 g7 c6)))))) q0)
     (e7 (l5 (p8 (c5 (pv 2) (c5 g7 (c5 (j6 C4 g7 (pv 1)) c6)))))))),?_⟩
   refine ⟨_,rfl,_,rfl,a,_,rfl,.inl ha,_,_,rfl,rfl,_,rfl,?_⟩;rw[ds1];have cp:de6 10 18:=⟨by decide,by decide,by decide⟩;refine M6 (fun h=> ?_) (fun h=> ?_)
   · have h:k < (ns.length:Int):=of_decide_eq_true h;refine ⟨_,rfl,_,rfl,a,_,k,_,rfl,rfl,ha,ar0 k0 h,?_⟩;refine ⟨_,rfl,_,_,rfl,rfl,cp,_,_,rfl,rfl,_,rfl,?_⟩;refine M6 (fun h=> ?_) (fun h=> ?_)
     · refine ⟨_,rfl,_,_,rfl,rfl,cp,_,_,rfl,rfl,(by show 3<=sizeLine;decide),fun l hl=> ?_⟩;exact q l _ hl (e8.upd_new hl) ⟨_,_,_,c8,by decide,by decide⟩
     · refine ⟨_,rfl,_,rfl,_,_,rfl,rfl,.inl ⟨by decide,by decide⟩,(by show 3<=sizeLine;decide),fun l hl=> ?_⟩;exact q l _ hl (e8.upd_new hl) ⟨_,_,_,c8,by omega,by omega⟩
   · refine ⟨_,rfl,_,_,rfl,rfl,cp,_,_,rfl,rfl,_,rfl,?_⟩;refine M6 (fun h=> ?_) (fun h=> ?_)
     · refine ⟨_,rfl,_,_,rfl,rfl,cp,_,_,rfl,rfl,(by show 3<=sizeLine;decide),fun l hl=> ?_⟩;exact q l _ hl (e8.upd_new hl) ⟨_,_,_,c8,by decide,by decide⟩
     · refine ⟨_,rfl,_,rfl,_,_,rfl,rfl,.inl ⟨by decide,by decide⟩,(by show 3<=sizeLine;decide),fun l hl=> ?_⟩;exact q l _ hl (e8.upd_new hl) ⟨_,_,_,c8,by omega,by omega⟩
def ao6:Sp:=fun vs H Q _=>∃(a:Addr) (c:Nat) (m:Int),vs=[.ref a,.int m]/\x4 H a c/\c<=1000000/\0 < m/\m<=1000000000000000000000000000000/\∀(r:Int) (H':Hp),0<=r->r < m->x4 H' a (c+1)->i8 a H H'->Q (.int r) H'
theorem aj0:l8 ["pool","many","found","step","mark"] ["pool","many"] (j5 al1):=by rfl'
theorem db5 {f:Addr}{fd:FuncData}(F:x6 K "_law_take" "_law_take" al1 f fd):o7 P w K mg base x5 1 f fd ["pool","many"] ao6:=by
 refine F.ok aj0 (fun vs H Q E h=> ?_) (fun cdv A outer s H vs Q E hr h=> ?_)
 · obtain ⟨a,c,m,rfl,_⟩:=h;rfl
 · obtain ⟨a,c,m,rfl,⟨x,y,z,ha,hz,hzc⟩,hc,m0,m1,q⟩:=h
   refine ⟨_,c7 (y9 (t6 U0 (G9 C1 (pv 0) g7 (fun _ _=>rfl)) g7 (q5 _))
       (c7 (i6 (i:=2) aj0.nd rfl (Or.inl rfl) (j6 R6 (G9 C1 (pv 0) g7 (fun _ _=>rfl)) (pv 1)))
       (c7 (an2 (j6 bo6 (G9 C1 (pv 0) g7 (fun _ _=>rfl)) (pv 1)) (an1 (pv 0) g7 ac2))
       (e7 (l5 (pv 2))))) q0)
     (c7 (an2 (j6 x3 (G9 C1 (pv 0) g7 (fun _ _=>rfl)) g7) (an1 (pv 0) g7 ac2))
     (c7 (i6 (i:=3) aj0.nd rfl (Or.inl rfl) (G9 C1 (pv 0) g7 (fun _ _=>rfl)))
     (c7 (i6 (i:=4) aj0.nd rfl (Or.inl rfl) (j6 C4 (j6 x3 (j6 R6 (G9 C1 (pv 0) g7 (fun _ _=>rfl)) g7) g7) (j6 x3 (j6 C4 g7 (pv 3)) g7)))
     (c7 (i6 (i:=4) aj0.nd rfl (Or.inl rfl) (j6 x3 (pv 4) (j6 C4 (j6 C4 g7 (pv 3)) (pv 3))))
     (c7 (i6 (i:=4) aj0.nd rfl (Or.inl rfl) (j6 R6 (j6 C4 (pv 4) (pv 4)) g7))
     (e7 (l5 (j6 R6 (j6 cy3 (j6 R6 (j6 C4 (pv 4) (j6 x3 (pv 4) g7)) g7) g7) (pv 1))))))))),?_⟩
   refine ⟨_,rfl,a,_,_,_,rfl,rfl,i5.of ha,(K1 (j:=1) rfl),rfl,_,rfl,?_⟩;refine M6 (fun h=> ?_) (fun h=> ?_)
   · refine ⟨_,rfl,a,_,_,_,rfl,rfl,i5.of ha,(K1 (j:=0) rfl),_,rfl,_,_,rfl,rfl,m0,?_⟩;refine ⟨_,rfl,a,_,_,_,rfl,rfl,i5.of ha,(K1 (j:=0) rfl),_,rfl,_,_,rfl,rfl,⟨m0,m1⟩,?_⟩;refine ⟨_,rfl,a,_,_,0,rfl,rfl,ha,rfl,?_⟩;refine ⟨_,rfl,q _ _ (ed4 _ (by omega)) (eg5 _ m0) ⟨_,_,_,c8,hz,by omega⟩ i8.upd⟩
   · refine ⟨_,rfl,a,_,_,_,rfl,rfl,i5.of ha,(K1 (j:=2) rfl),_,_,rfl,rfl,?_⟩;refine ⟨_,rfl,a,_,_,2,rfl,rfl,ha,rfl,?_⟩;have ha2:(c9 H a (.lst [.int x,.int y,.int (z+1)])) a=some (.lst [.int x,.int y,.int (z+1)]):=c8;refine ⟨_,rfl,a,_,_,_,rfl,rfl,i5.of ha2,(K1 (j:=2) rfl),?_⟩;have hxm:0<=x%9999999577/\x%9999999577 < 9999999577:=⟨ed4 _ (by decide),eg5 _ (by decide)⟩;have tb:=cd6 (u:=x%9999999577+1009) (s:=z+1) (by omega) (by omega) (by omega) (by omega)
     have e64:(2:Int)^64=18446744073709551616:=by decide
     refine ⟨_,rfl,a,_,_,_,rfl,rfl,i5.of ha2,(K1 (j:=0) rfl),_,_,rfl,rfl,(by show (0:Int) < 9999999577;decide),_,_,rfl,rfl,_,rfl,_,_,rfl,rfl,.inl ⟨by decide,by decide⟩,_,_,rfl,rfl,_,_,rfl,rfl,.inl ⟨by rw[e64];omega,by rw[e64];omega⟩,?_⟩;refine ⟨_,rfl,_,rfl,_,_,rfl,rfl,.inl ⟨by decide,by decide⟩,_,rfl,_,_,rfl,rfl,.inl ⟨by rw[e64];omega,by rw[e64];omega⟩,_,_,rfl,rfl,?_⟩;refine ⟨_,rfl,_,rfl,_,_,rfl,rfl,.inl ⟨by have:=tb.1;rw[e64];omega,tb.2⟩,_,_,rfl,rfl,(by show (0:Int) < 99999999599;decide),?_⟩;refine ⟨_,rfl,_,rfl,_,_,rfl,rfl,_,_,rfl,rfl,.inl ⟨by rw[e64];omega,by rw[e64];omega⟩,_,_,rfl,rfl,(by show (0:Int) < 99999999907;decide),_,_,rfl,rfl,⟨by decide,by decide⟩,_,rfl,_,_,rfl,rfl,m0,?_⟩;exact q _ _ (ed4 _ (by omega)) (eg5 _ m0) ⟨_,_,_,c8,by omega,by omega⟩ i8.upd
def ce9 (H:Hp)(l:Addr):Nat:=match H l with
 |some (.lst xs)=>xs.length
 |_=>0
theorem br5 {H:Hp}{l:Addr}{xs:List V}(h:H l=some (.lst xs)):ce9 H l=xs.length:=by unfold ce9;rw[h]
end
end My
namespace My
open PySem L2 Mth
section
variable {P:Program} {w:World} {K:PySem.W.Frag} {mg:Str->Option Value} {base:Heap}
def dr8 (σ:St):Nat:=match σ[5]? with
 |some (some (V.int i))=>i.toNat
 |_=>0
end
end My
namespace My
open PySem L2 Mth
section
variable {P:Program} {w:World} {K:PySem.W.Frag} {mg:Str->Option Value} {base:Heap}
def Q7:Sp:=fun vs H Q _=>∃(a:Addr) (p:List Int),vs=[.ref a]/\R8 H a p/\
 ∀(l:Addr) (as:List Addr) (rs:List (List Int)) (H':Hp),H l=none->e8 H H'->H' l=some (.lst (as.map V.ref))->m9 H' as rs->y8 p p.length rs->(∀b∈as,H b=none)->as.Nodup->l∉as->Q (.ref l) H'
theorem K7 {H:Hp}{as:List Addr}{rs:List (List Int)}{e:Addr}{r:List Int}(h:m9 H as rs)(he:H e=some (.lst (r.map V.int))):m9 H (as++[e]) (rs++[r]):=by
 refine ⟨by rw[ds8,ds8,h.1];rfl,fun j b q h1 h2=> ?_⟩
 by_cases hj:j < as.length
 · rw[dv8 hj] at h1;rw[dv8 (by rw[<-h.1];exact hj)] at h2;exact h.2 j b q h1 h2
 · rw[dw7 (by omega)] at h1;rw[dw7 (by rw[<-h.1];omega),<-h.1] at h2
   have hj0:j - as.length=0:=by
     have:=(ds3.mp h1).1
     simpa using this
   rw[hj0] at h1 h2;cases h1;cases h2;exact he
theorem t9 {H H':Hp}{as:List Addr}{rs:List (List Int)}(h:m9 H as rs)(k:∀b∈as,∀o,H b=some o->H' b=some o):m9 H' as rs:=
 ⟨h.1,fun j a r h1 h2=>k a (dt2 h1) _ (h.2 j a r h1 h2)⟩
theorem ad6 {H:Hp}{as:List Addr}{rs:List (List Int)}(h:m9 H as rs){b:Addr}(hb:b∈as):∃r:List Int,H b=some (.lst (r.map V.int)):=by
 obtain ⟨j,hj⟩:=dv7.mp hb;have hjl:=(ds3.mp hj).1;exact ⟨_,h.2 j b (rs[j]'(by rw[<-h.1];exact hjl)) hj (ds2 _)⟩
theorem X9 {p:List Int}{i:Nat}{rs:List (List Int)}(tp:o6 p)(h:y8 p i rs):rs.flatten.length<=p.length:=by
 refine J2 h.nd fun x hx=> ?_
 obtain ⟨r,hr,hxr⟩:=du6.mp hx;obtain ⟨y,L,a,b,rfl,_⟩:=h.ring r hr;exact W4 tp a x hxr
theorem ad7 {p:List Int}{i:Nat}{rs:List (List Int)}(h:y8 p i rs):rs.length<=rs.flatten.length:=by
 have:∀l:List (List Int),(∀r∈l,1<=r.length)->l.length<=l.flatten.length:=by
   intro l
   induction l with
   |nil=>intro _;exact ds4 _
   |cons a r ih=>
    intro h;have h1:=h a ds5
    have h2:=ih fun x hx=>h x (ds6 _ hx)
    rw[dt9,ds8,dv9];omega
 refine this rs fun r hr=> ?_
 obtain ⟨y,L,a,b,rfl,_⟩:=h.ring r hr;rw[n9];exact b.pos
end
end My
namespace My
open PySem L2 Mth
section
variable {P:Program} {w:World} {K:PySem.W.Frag} {mg:Str->Option Value} {base:Heap}
def br6:Sp:=fun vs H Q _=>∃(a:Addr) (p:List Int) (x:Int),vs=[.ref a,.int x]/\R8 H a p/\In p x/\
 ∀(l:Addr) (L:Nat) (H':Hp),H l=none->e8 H H'->D7 p x L->L<=40->H' l=some (.lst ((m7 p x L).map V.int))->Q (.ref l) H'
theorem bb0:l8 ["p","first","ring","thing"] ["p","first"] (j5 ag3):=by rfl'
theorem db6 {f:Addr}{fd:FuncData}(F:x6 K "walk_ring" "walk_ring" ag3 f fd):o7 P w K mg base x5 1 f fd ["p","first"] br6:=by
 refine F.ok bb0 (fun vs H Q E h=> ?_) (fun cdv A outer s H vs Q E hr h=> ?_)
 · obtain ⟨a,p,x,rfl,_⟩:=h;rfl
 · obtain ⟨a,p,x,rfl,⟨ha,tp,lp⟩,hx,q⟩:=h
   refine ⟨_,c7 (i6 (i:=2) bb0.nd rfl (Or.inl rfl) (p8 (c5 (pv 1) c6)))
     (c7 (i6 (i:=3) bb0.nd rfl (Or.inl rfl) (G9 C1 (pv 0) (pv 1) (fun _ _=>rfl)))
     (c7 (au8 PassesOwn.never (t6 aq3 (pv 3) (pv 1) (q5 _)) (c7 (p7 (x8 (pv 2) (c5 (pv 3) c6))) (e7 (i6 (i:=3) bb0.nd rfl (Or.inl rfl) (G9 C1 (pv 0) (pv 3) (fun _ _=>rfl))))))
     (e7 (l5 (pv 2))))),?_⟩
   refine ⟨_,rfl,(by show 1<=sizeLine;decide),fun l hl=> ?_⟩;have nal:a≠l:=g6 ha hl
   have hal:(c9 H l (.lst [.int x])) a=some (.lst (p.map V.int)):=by rw[g8 nal];exact ha
   refine ⟨_,rfl,_,rfl,a,_,_,_,rfl,rfl,i5.of hal,ar0 hx.1 hx.2,?_⟩
   refine bn0 (fun σ H2=>∃m:Nat,σ=[some (.ref a),some (.int x),some (.ref l),some (.int (it p m x))]/\1<=m/\H2 l=some (.lst ((m7 p x m).map V.int))/\e8 H H2/\∀i,0 < i->i < m->it p i x≠x) (fun _ H2=>p.length+1 - ce9 H2 l)
     ⟨1,rfl,ds4 _,c8,e8.upd_new hl,fun i i0 i1=>by omega⟩ ?_ ?_
   · rintro σ H2 ⟨m,rfl,m1,h2l,s2,hne⟩;have ha2:=s2 a _ ha;refine ⟨_,rfl,_,rfl,rfl,_,rfl,?_⟩
     by_cases hb:it p m x=x
     · refine aq8 (congrArg V.int hb) ?_;exact ⟨_,rfl,q l m H2 hl s2 ⟨by omega,hb,hne⟩ (by have:=I0 tp hx hne;omega) h2l⟩
     · have hb':¬V.int (it p m x)=V.int x:=fun z=>hb (V.int.inj z)
       rw[decide_eq_false hb'];refine ac6 ?_
       have hne':∀i,0 < i->i < m+1->it p i x≠x:=fun i i0 i1=>by
         by_cases e:i=m
         · rw[e];exact hb
         · exact hne i i0 (by omega)
       have hbd:=I0 tp hx hne';refine ⟨_,rfl,.inl ⟨rfl,_,i5.of h2l⟩,_,rfl,l,_,_,rfl,rfl,h2l,o9 (by rw[ds1,n9];omega),?_⟩;have hi:=L1 tp hx m;refine ⟨_,rfl,_,rfl,a,_,_,_,rfl,rfl,i5.of (by rw[g8 nal];exact ha2),ar0 hi.1 hi.2,?_⟩
       have h3l:(c9 H2 l (.lst ((m7 p x m).map V.int++[.int (it p m x)]))) l=some (.lst ((m7 p x (m+1)).map V.int)):=by
         rw[c8,cd8,dt1];rfl
       refine ⟨⟨m+1,rfl,by omega,h3l,fun b o hb=>by rw[g8 (g6 hb hl)];exact s2 b o hb,hne'⟩,?_⟩;rw[br5 h3l,br5 h2l,ds1,ds1,n9,n9];omega
   · rintro σ H2 Q Q' hq ⟨v,hv,u,hu,e1,k1,e2,e3⟩;exact ⟨v,hv,u,hu,e1,k1,e2,hq _ _ e3⟩
theorem ab4:l8 ["p","rings","seen","first","ring","thing"] ["p"] (j5 ad4):=by rfl'
theorem ct0 {f:Addr}{fd:FuncData}(F:x6 K "walk_rings" "walk_rings" ad4 f fd)(B:Bl mg)(cR:j7 P w K mg base "walk_ring" 1 ["p","first"] br6):o7 P w K mg base x5 2 f fd ["p"] Q7:=by
 refine F.ok ab4 (fun vs H Q E h=> ?_) (fun cdv A outer s H vs Q E hr h=> ?_)
 · obtain ⟨a,p,rfl,_⟩:=h;rfl
 · obtain ⟨a,p,rfl,⟨ha,tp,lp⟩,q⟩:=h;have hu:=X1 hr
   refine ⟨_,c7 (i6 (i:=1) ab4.nd rfl (Or.inl rfl) (p8 c6)) (c7 (i6 (i:=2) ab4.nd rfl (Or.inl rfl) ac5)
     (c7 (l9 PassesOwn.never rfl (X7 (by rfl) B.range (c5 (y7 B.len (c5 (pv 0) c6)) c6)) (i9 (i:=3) ab4.nd rfl (Or.inl rfl))
       (e7 (y9 (bm7 (cj1 hu (pv 3) (pv 2))) (c7 (i6 (i:=4) ab4.nd rfl (Or.inl rfl) (i4 cR hr (c5 (pv 0) (c5 (pv 3) c6)))) (c7 (p7 (x8 (pv 1) (c5 (pv 4) c6)))
         (e7 (l9 PassesOwn.never rfl (t5 (pv 4)) (i9 (i:=5) ab4.nd rfl (Or.inl rfl)) (e7 (aq7 hu (pv 2) (pv 5) J9 rfl)))))) q0)))
     (e7 (l5 (pv 1))))),?_⟩
   refine ⟨du3 _,fun l hl=> ?_⟩;intro d hd
   have hdl:d≠l:=fun z=>by rw[z,c8] at hd;cases hd
   have hd0:H d=none:=by rw[g8 hdl] at hd;exact hd
   have s0:e8 H (c9 (c9 H l (.lst [])) d (.dK [])):=(e8.upd_new hl).upd_r hd0
   have h0l:(c9 (c9 H l (.lst [])) d (.dK [])) l=some (.lst []):=by rw[g8 hdl.symm,c8]
   refine ⟨_,rfl,a,_,rfl,.inl (i5.of (s0 a _ ha)),(p.length:Int),?_,by omega,by omega,?_⟩
   · rw[ds1]
   rw[show ((p.length:Int)).toNat=p.length by omega]
   refine E8 (lo:=0) (n:=p.length) (fun i σ H2=>∃(as:List Addr) (rs:List (List Int)) (v3 v4 v5:Option V),σ=[some (.ref a),some (.ref l),some (.ref d),v3,v4,v5]/\H2 l=some (.lst (as.map V.ref))/\H2 d=some (.dK (Q3 rs.flatten))/\m9 H2 as rs/\y8 p i rs/\e8 H H2/\(∀b∈as,H b=none)/\as.Nodup/\l∉as)
     ⟨[],[],none,none,none,rfl,h0l,c8,⟨rfl,fun j b r h=>by simp at h⟩,az7 p,s0,fun b hb=>by simp at hb,dz9,by simp⟩ ?_ ?_
   · rintro i σ H2 hi ⟨as,rs,v3,v4,v5,rfl,h2l,h2d,rows,up,s2,fa,nda,nla⟩;have hx:In p (i:Int):=⟨by omega,by omega⟩
     have e0:(0:Int)+(i:Int)=(i:Int):=by omega
     rw[e0];refine ⟨_,rfl,_,rfl,d,_,rfl,U1.k (k:=Sum.inl (i:Int)) h2d,_,rfl,?_⟩
     by_cases hm:(i:Int)∈rs.flatten
     · rw[bo4 hm];refine G5 ?_;exact ⟨as,rs,_,_,_,rfl,h2l,h2d,rows,az8 up hm,s2,fa,nda,nla⟩
     · rw[av1 hm];refine ac6 ?_;refine ⟨_,rfl,_,rfl,a,p,_,rfl,⟨s2 a _ ha,tp,lp⟩,hx,fun e L H3 he s23 pr hL h3e=> ?_⟩;have h3l:=s23 l _ h2l;have h3d:=s23 d _ h2d;have nle:l≠e:=g6 h2l he;have nde:d≠e:=g6 h2d he;have fl:=X9 tp up;have cl:=ad7 up;have lenas:=rows.1;refine ⟨_,rfl,.inl ⟨rfl,_,i5.of h3l⟩,_,rfl,l,_,_,rfl,rfl,h3l,o9 (by rw[ds1,lenas];omega),?_⟩
       have es:as.map V.ref++[V.ref e]=(as++[e]).map V.ref:=by rw[dt1];rfl
       rw[es];have h4l:(c9 H3 l (.lst ((as++[e]).map V.ref))) l=some (.lst ((as++[e]).map V.ref)):=c8
       have h4d:(c9 H3 l (.lst ((as++[e]).map V.ref))) d=some (.dK (Q3 rs.flatten)):=by rw[g8 hdl];exact h3d
       have h4e:(c9 H3 l (.lst ((as++[e]).map V.ref))) e=some (.lst ((m7 p i L).map V.int)):=by rw[g8 nle.symm];exact h3e
       have k4:∀b o,H2 b=some o->b≠l->(c9 H3 l (.lst ((as++[e]).map V.ref))) b=some o:=fun b o hb hn=>by rw[g8 hn];exact s23 b o hb
       generalize (c9 H3 l (.lst ((as++[e]).map V.ref)))=H4 at h4l h4d h4e k4 ⊢;have fr:=at6 up pr hm
       have ndr:=X2 tp hx fun j j0 j1=>pr.least j j0 j1
       refine ⟨_,rfl,e,rfl,⟨_,i5.of h4e⟩,w4 (K:=K) (a:=e) (xs:=(m7 p i L).map V.int) (fun j σ H5=>∃v5':Option V,σ=[some (.ref a),some (.ref l),some (.ref d),some (.int (i:Int)),some (.ref e),v5']/\H5 d=some (.dK (Q3 (rs.flatten++(m7 p i L).take j)))/\i8 d H4 H5)
         ⟨v5,rfl,by rw[eb9,du8];exact h4d,i8.refl d H4⟩ (fun j σ H5 _ zz=>by obtain ⟨_,_,_,k⟩:=zz;exact i5.of (k e _ h4e nde.symm)) ?_ ?_⟩
       · rintro j y σ H5 hj ⟨v5',rfl,h5d,kb⟩;obtain ⟨z,hz,rfl⟩:=C9 hj;have hjl:j < (m7 p i L).length:=(ds3.mp hz).1;rw[n9] at hjl
         have hzn:z∉rs.flatten++(m7 p i L).take j:=by
           intro hm'
           rcases dt4.mp hm' with g|g
           · exact fr z (dt2 hz) g
           · obtain ⟨jj,hjj⟩:=dv7.mp g
             have hjk:jj < j:=by
               have:=(ds3.mp hjj).1;rw[du1] at this;omega
             rw[dz8 hjk] at hjj;have e1:=(ds3.mp hjj).2;have e2:=(ds3.mp hz).2;exact dv6.mp (du4.mp ndr) jj j (by rw[n9];omega) (by rw[n9];omega) hjk (by rw[e1,e2])
         refine ⟨_,rfl,_,rfl,d,_,rfl,ag1.k (k:=Sum.inl z) h5d (o9 (by unfold Q3;rw[ds1,ds8,du1,n9];omega)),?_⟩;refine ⟨_,rfl,?_,kb.upd_a⟩;rw[bi3 hzn,c8,i7 hz,du2]
       · rintro σ H5 ⟨v5',rfl,h5d,kb⟩;rw[ds1,du7] at h5d
         have nad:∀b∈as,b≠d/\b≠l:=fun b hb=>by
           obtain ⟨r,hr'⟩:=ad6 rows hb;exact ⟨cv8 hr' h2d (by intro z;cases z),fun z=>nla (z▸hb)⟩
         refine ⟨as++[e],rs++[m7 p i L],_,_,_,rfl,kb l _ h4l hdl.symm,?_,?_,az9 tp up hx pr hm,?_,?_,?_,?_⟩
         · rw[h5d,dx0,dz6]
         · exact K7 (t9 rows fun b hb o ho=>kb b o (k4 b o ho (nad b hb).2) (nad b hb).1) (kb e _ h4e nde.symm)
         · exact fun b o hb=>kb b o (k4 b o (s2 b o hb) (g6 hb hl)) (g6 hb hd0)
         · intro b hb
           rcases dt4.mp hb with g|g
           · exact fa b g
           · have:b=e:=by simpa using g
             rw[this];exact s2.free he
         · refine aq9 nda fun g=> ?_
           obtain ⟨r,hr'⟩:=ad6 rows g;rw[he] at hr';cases hr'
         · intro g
           rcases dt4.mp g with g|g
           · exact nla g
           · exact nle (by simpa using g)
   · rintro σ H2 ⟨as,rs,v3,v4,v5,rfl,h2l,h2d,rows,up,s2,fa,nda,nla⟩;exact ⟨_,rfl,q l as rs H2 hl s2 h2l rows up fa nda nla⟩
end
end My
namespace My
open PySem L2 Mth
section
variable {P:Program} {w:World} {K:PySem.W.Frag} {mg:Str->Option Value} {base:Heap}
def ao7:Sp:=fun vs H Q _=>∃(t r:Addr) (ts rs:List Int) (k:Int),vs=[.ref t,.ref r,.int k]/\H t=some (.lst (ts.map V.int))/\H r=some (.lst (rs.map V.int))/\t≠r/\rs.Nodup/\(∀x∈rs,0<=x/\x < ts.length)/\
 ∀(ts':List Int) (H':Hp),ts'.length=ts.length->(∀j,j < rs.length->A1 ts' (rs.getD j 0)=some (rs.getD (((j:Int)+k)%(rs.length:Int)).toNat 0))->(∀u,0<=u->u∉rs->A1 ts' u=A1 ts u)->H' t=some (.lst (ts'.map V.int))->i8 t H H'->Q .non H'
theorem br7:l8 ["target","ring","steps","place","thing"] ["target","ring","steps"] (j5 O8):=by rfl'
theorem db7 {f:Addr}{fd:FuncData}(F:x6 K "send_along" "send_along" O8 f fd)(B:Bl mg):o7 P w K mg base x5 1 f fd ["target","ring","steps"] ao7:=by
 refine F.ok br7 (fun vs H Q E h=> ?_) (fun cdv A outer s H vs Q E hr h=> ?_)
 · obtain ⟨t,r,ts,rs,k,rfl,_⟩:=h;rfl
 · obtain ⟨t,r,ts,rs,k,rfl,ht,hrr,ntr,nd,bd,q⟩:=h
   refine ⟨_,e7 (l9 PassesOwn.never rfl (ai1 B.enum (c5 (pv 1) c6)) (T9 rfl (A3 (i9 (i:=3) br7.nd rfl (Or.inl rfl)) (A3 (i9 (i:=4) br7.nd rfl (Or.inl rfl)) Q1)))
     (e7 (an2 (G9 C1 (pv 1) (j6 R6 (j6 x3 (pv 3) (pv 2)) (y7 B.len (c5 (pv 1) c6))) (fun _ _=>rfl)) (an1 (pv 0) (pv 4) ac2)))),?_⟩
   refine ⟨_,rfl,r,rfl,⟨_,i5.of hrr⟩,ac8 (K:=K) (a:=r) (xs:=rs.map V.int) (fun i σ H2=>∃(ts':List Int) (v3 v4:Option V),σ=[some (.ref t),some (.ref r),some (.int k),v3,v4]/\H2 t=some (.lst (ts'.map V.int))/\ts'.length=ts.length/\(∀j,j < i->A1 ts' (rs.getD j 0)=some (rs.getD (((j:Int)+k)%(rs.length:Int)).toNat 0))/\(∀u,0<=u->u∉rs->A1 ts' u=A1 ts u)/\i8 t H H2)
     ⟨ts,none,none,rfl,ht,rfl,fun j hj=>by omega,fun u _ _=>rfl,i8.refl t H⟩ (fun i σ H2 _ zz=>by obtain ⟨_,_,_,_,_,_,_,_,k⟩:=zz;exact i5.of (k r _ hrr ntr.symm)) ?_ ?_⟩
   · rintro i y σ H2 tt hi ⟨ts',v3,v4,rfl,h2t,hl,hj,hu,kb⟩ htt;obtain ⟨z,hz,rfl⟩:=C9 hi;have hil:i < rs.length:=(ds3.mp hz).1;have h2r:=kb r _ hrr ntr.symm;have nt:t≠tt:=g6 h2t htt;have nr:r≠tt:=g6 h2r htt
     have h3r:(c9 H2 tt (.tup [.int (i:Int),.int z])) r=some (.lst (rs.map V.int)):=by rw[g8 nr];exact h2r
     have h3t:(c9 H2 tt (.tup [.int (i:Int),.int z])) t=some (.lst (ts'.map V.int)):=by rw[g8 nt];exact h2t
     have L0:(0:Int) < (rs.length:Int):=by omega
     have m0:=ed4 ((i:Int)+k) (show (rs.length:Int)≠0 by omega);have m1:=eg5 ((i:Int)+k) L0;refine ⟨tt,_,rfl,T2.of c8,rfl,_,_,rfl,_,_,rfl,rfl,?_⟩;refine ⟨_,rfl,_,rfl,_,rfl,_,_,rfl,rfl,_,rfl,r,_,rfl,.inl (i5.of h3r),?_⟩;rw[ds1];refine ⟨_,_,rfl,rfl,L0,r,_,_,_,rfl,rfl,i5.of h3r,ar0 m0 m1,?_⟩;obtain ⟨z0,z1⟩:=bd z (dt2 hz);refine ⟨_,rfl,_,rfl,t,_,_,z.toNat,rfl,rfl,h3t,?_,?_⟩
     · unfold ixN;rw[ds1,if_pos z0,if_pos (by omega)]
     have es:(ts'.map V.int).set z.toNat (.int (rs.getD (((i:Int)+k)%(rs.length:Int)).toNat 0))=(ts'.set z.toNat (rs.getD (((i:Int)+k)%(rs.length:Int)).toNat 0)).map V.int:=by rw[List.map_set]
     rw[es]
     have hzi:rs.getD i 0=z:=by rw[N3 hil];exact (ds3.mp hz).2
     refine ⟨_,_,_,rfl,c8,by rw[ei6];exact hl,fun j hji=> ?_,fun u u0 un=> ?_,fun b o hb hn=> ?_⟩
     · by_cases e:j=i
       · subst e;rw[hzi,av2 (by omega)]
       · have hjl:j < rs.length:=by omega
         have:rs.getD j 0≠z:=by rw[<-hzi];exact aa5 nd hjl hil e
         rw[az5 (bd _ (by rw[N3 hjl];exact dw2 hjl)).1 z0 this];exact hj j (by omega)
     · rw[az5 u0 z0 (fun e=>un (e▸dt2 hz))];exact hu u u0 un
     · have:=kb b o hb hn;rw[g8 hn,g8 (g6 this htt)];exact this
   · rintro σ H2 ⟨ts',v3,v4,rfl,h2t,hl,hj,hu,kb⟩;rw[ds1] at hj;exact q ts' H2 hl hj hu h2t kb
end
end My
namespace My
open PySem L2 Mth
section
variable {P:Program} {w:World} {K:PySem.W.Frag} {mg:Str->Option Value} {base:Heap}
theorem cf0:l8 ["p"] ["p"] (j5 ag4):=by rfl'
theorem bx2 {f:Addr}{fd:FuncData}(F:x6 K "rounds_of" "rounds_of" ag4 f fd)(cM:j7 P w K mg base "must_be_turn" 3 ["thing"] ao5)(cR:j7 P w K mg base "walk_rings" 2 ["p"] Q7):o7 P w K mg base x5 4 f fd ["p"] Q7:=by
 refine F.ok cf0 (fun vs H Q E h=> ?_) (fun cdv A outer s H vs Q E hr h=> ?_)
 · obtain ⟨a,p,rfl,_⟩:=h;rfl
 · obtain ⟨a,p,rfl,⟨ha,tp,lp⟩,q⟩:=h;refine ⟨_,c7 (p7 (i4 cM hr (c5 (pv 0) c6))) (e7 (l5 (i4 cR (hr.mono (by decide)) (c5 (pv 0) c6)))),?_⟩;refine ⟨_,rfl,a,p,rfl,⟨ha,tp,lp⟩,fun H1 s1=> ?_⟩;exact ⟨_,rfl,a,p,rfl,⟨s1 a _ ha,tp,lp⟩,fun l as rs H' hl s' h1 h2 h3 h4 h5 h6=>q l as rs H' (s1.free hl) (s1.trans s') h1 h2 h3 (fun b hb=>s1.free (h4 b hb)) h5 h6⟩
end
end My
namespace My
open PySem L2 Mth
section
variable {P:Program} {w:World} {K:PySem.W.Frag} {mg:Str->Option Value} {base:Heap}
def bl9:Sp:=fun vs H Q _=>∃(x y:Nat),vs=[.int (x:Int),.int (y:Int)]/\Q (.int (du0 x y:Nat)) H
theorem bm0:l8 ["a","b","rest"] ["a","b"] (j5 U7):=by rfl'
def ct1 (σ:St):Nat:=match σ[1]? with
 |some (some (V.int i))=>i.toNat
 |_=>0
theorem di2 {f:Addr}{fd:FuncData}(F:x6 K "greatest_part" "greatest_part" U7 f fd):o7 P w K mg base x5 1 f fd ["a","b"] bl9:=by
 refine F.ok bm0 (fun vs H Q E h=> ?_) (fun cdv A outer s H vs Q E hr h=> ?_)
 · obtain ⟨x,y,rfl,_⟩:=h;rfl
 · obtain ⟨x,y,rfl,q⟩:=h
   refine ⟨_,c7 (au8 PassesOwn.never (t6 aq3 (pv 1) g7 (q5 _))
       (c7 (i6 (i:=2) bm0.nd rfl (Or.inl rfl) (j6 R6 (pv 0) (pv 1))) (c7 (i6 (i:=0) bm0.nd rfl (Or.inl rfl) (pv 1)) (e7 (i6 (i:=1) bm0.nd rfl (Or.inl rfl) (pv 2))))))
     (e7 (l5 (pv 0))),?_⟩
   refine bn0 (fun σ H2=>∃(a b:Nat) (v:Option V),σ=[some (.int (a:Int)),some (.int (b:Int)),v]/\du0 a b=du0 x y/\H2=H) (fun σ _=>ct1 σ) ⟨x,y,none,rfl,rfl,rfl⟩ ?_ ?_
   · rintro σ H2 ⟨a,b,v,rfl,hg,rfl⟩;refine ⟨_,rfl,rfl,_,rfl,?_⟩
     by_cases hb:b=0
     · subst hb;refine aq8 (by rfl) ?_;refine ⟨_,rfl,?_⟩;rw[Nat.gcd_zero_right] at hg;rw[hg];exact q
     · have hb':¬V.int (b:Int)=V.int 0:=fun z=>hb (by have:=V.int.inj z;omega)
       rw[decide_eq_false hb'];refine ac6 ?_;refine ⟨_,rfl,_,rfl,_,_,rfl,rfl,(by show (0:Int) < (b:Int);omega),_,rfl,_,rfl,⟨b,a%b,some (.int ((a:Int)%(b:Int))),?_,?_,rfl⟩,?_⟩
       · rw[ec9];rfl
       · rw[<-hg,Nat.gcd_comm a b,Nat.gcd_rec b a,Nat.gcd_comm]
       · show ((a:Int)%(b:Int)).toNat < ((b:Int)).toNat;have:=eg5 (a:Int) (show (0:Int) < (b:Int) by omega);have:=ed4 (a:Int) (show (b:Int)≠0 by omega);omega
   · rintro σ H2 Q Q' hq ⟨v,hv,e1,k1,e2,e3⟩;exact ⟨v,hv,e1,k1,e2,hq _ _ e3⟩
end
end My
namespace My
open PySem L2 Mth
section
variable {P:Program} {w:World} {K:PySem.W.Frag} {mg:Str->Option Value} {base:Heap}
def av8:Sp:=fun vs H Q _=>∃(l:Addr) (as:List Addr) (rs:List (List Int)),vs=[.ref l]/\H l=some (.lst (as.map V.ref))/\m9 H as rs/\(∀r∈rs,r≠[])/\Q (.bl true) H
theorem br8:l8 ["rounds","ring"] ["rounds"] (j5 O9):=by rfl'
theorem cn0 {f:Addr}{fd:FuncData}(F:x6 K "are_filled_lists" "are_filled_lists" O9 f fd)(B:Bl mg):o7 P w K mg base x5 1 f fd ["rounds"] av8:=by
 refine F.ok br8 (fun vs H Q E h=> ?_) (fun cdv A outer s H vs Q E hr h=> ?_)
 · obtain ⟨l,as,rs,rfl,_⟩:=h;rfl
 · obtain ⟨l,as,rs,rfl,hl,rows,hne,q⟩:=h
   refine ⟨_,c7 (y9 (K4 (K3 (ai0 B.isi (c5 (pv 0) (c5 (ae9 B.list) c6))))) (e7 (l5 J9)) q0)
     (c7 (l9 PassesOwn.never rfl (t5 (pv 0)) (i9 (i:=1) br8.nd rfl (Or.inl rfl))
       (e7 (y9 (aa1 (K4 (K3 (ai0 B.isi (c5 (pv 1) (c5 (ae9 B.list) c6))))) (ac0 (t6 U0 (y7 B.len (c5 (pv 1) c6)) g7 (q5 _)))).pt (e7 (l5 J9)) q0)))
     (e7 (l5 J9))),?_⟩
   refine ⟨_,rfl,_,"list",_,true,rfl,.lst hl,O3 K "list",true,rfl,?_⟩;refine G5 ?_;refine ⟨_,rfl,l,rfl,⟨_,i5.of hl⟩,w4 (K:=K) (a:=l) (xs:=as.map V.ref) (fun i σ H2=>∃v:Option V,σ=[some (.ref l),v]/\H2=H) ⟨none,rfl,rfl⟩ (fun i σ H2 _ zz=>by obtain ⟨_,_,e⟩:=zz;rw[e];exact i5.of hl) ?_ (fun σ H2 zz=>by obtain ⟨v,_,e⟩:=zz;rw[e];exact q)⟩;rintro i y σ H2 hi ⟨v,rfl,rfl⟩;rw[ds9] at hi
   cases hA:as[i]? with
   |none=>rw[hA] at hi;cases hi
   |some e=>
    rw[hA] at hi;cases hi;have hil:i < as.length:=(ds3.mp hA).1;have hri:rs[i]? =some (rs[i]'(by rw[<-rows.1];exact hil)):=ds2 _;generalize (rs[i]'(by rw[<-rows.1];exact hil))=r at hri;have he:=rows.2 i e r hA hri;have hrn:=hne r (dt2 hri);refine ⟨_,rfl,_,"list",_,true,rfl,.lst he,O3 K "list",true,rfl,?_⟩;refine G5 ⟨_,rfl,e,_,rfl,.inl (i5.of he),rfl,_,rfl,?_⟩
    have hnz:¬V.int (((r.map V.int).length:Nat):Int)=V.int 0:=fun z=>by
      have z:=V.int.inj z;rw[ds1] at z;have:=List.length_pos_iff.mpr hrn;omega
    rw[decide_eq_false hnz];exact G5 ⟨_,rfl,rfl⟩
def av9:Sp:=fun vs H Q _=>∃(l:Addr) (as:List Addr) (rs:List (List Int)),vs=[.ref l]/\H l=some (.lst (as.map V.ref))/\m9 H as rs/\rs.flatten.length<=1000/\
 ∀(o:Addr) (H':Hp),H o=none->e8 H H'->H' o=some (.lst (rs.flatten.map V.int))->Q (.ref o) H'
theorem aw0:l8 ["rounds","things","ring"] ["rounds"] (j5 ag5):=by rfl'
theorem br9 (rs:List (List Int))(i:Nat):(rs.take i).flatten.length<=rs.flatten.length:=by
 conv=>rhs;rw[<-dx2 i rs,dx0,ds8]
 omega
theorem cn1 {f:Addr}{fd:FuncData}(F:x6 K "things_in" "things_in" ag5 f fd):o7 P w K mg base x5 1 f fd ["rounds"] av9:=by
 refine F.ok aw0 (fun vs H Q E h=> ?_) (fun cdv A outer s H vs Q E hr h=> ?_)
 · obtain ⟨l,as,rs,rfl,_⟩:=h;rfl
 · obtain ⟨l,as,rs,rfl,hl,rows,hb,q⟩:=h
   refine ⟨_,c7 (i6 (i:=1) aw0.nd rfl (Or.inl rfl) (p8 c6))
     (c7 (l9 PassesOwn.never rfl (t5 (pv 0)) (i9 (i:=2) aw0.nd rfl (Or.inl rfl)) (e7 (p7 (ck7 (pv 1) (c5 (pv 2) c6)))))
     (e7 (l5 (pv 1)))),?_⟩
   refine ⟨du3 _,fun o ho=> ?_⟩;have s0:e8 H (c9 H o (.lst [])):=e8.upd_new ho;refine ⟨_,rfl,l,rfl,⟨_,i5.of (s0 l _ hl)⟩,w4 (K:=K) (a:=l) (xs:=as.map V.ref) (fun i σ H2=>∃v:Option V,σ=[some (.ref l),some (.ref o),v]/\e8 H H2/\H2 o=some (.lst ((rs.take i).flatten.map V.int))) ⟨none,rfl,s0,c8⟩ (fun i σ H2 _ zz=>by obtain ⟨_,_,s,_⟩:=zz;exact i5.of (s l _ hl)) ?_ ?_⟩
   · rintro i y σ H2 hi ⟨v,rfl,s2,h2o⟩;rw[ds9] at hi
     cases hA:as[i]? with
     |none=>rw[hA] at hi;cases hi
     |some e=>
      rw[hA] at hi;cases hi;have hil:i < as.length:=(ds3.mp hA).1;have hri:rs[i]? =some (rs[i]'(by rw[<-rows.1];exact hil)):=ds2 _;generalize (rs[i]'(by rw[<-rows.1];exact hil))=r at hri;have he:=s2 e _ (rows.2 i e r hA hri);have hle:=br9 rs (i+1);rw[i7 hri,dx0,dz6,ds8] at hle;have h1000:=o9 (ds4 1000);refine ⟨_,rfl,.inl ⟨rfl,_,i5.of h2o⟩,_,rfl,o,e,_,_,rfl,rfl,h2o,he,by rw[ds1,ds1];omega,?_⟩;refine ⟨_,rfl,fun b u hb=>by rw[g8 (g6 hb ho)];exact s2 b u hb,?_⟩;rw[c8,i7 hri,dx0,dz6,dt1]
   · rintro σ H2 ⟨v,rfl,s2,h2o⟩;rw[ds1,rows.1,du7] at h2o;exact ⟨_,rfl,q o H2 ho s2 h2o⟩
def ao8:Sp:=fun vs H Q _=>∃(l:Addr) (as:List Addr) (rs:List (List Int)),vs=[.ref l]/\H l=some (.lst (as.map V.ref))/\m9 H as rs/\(∀r∈rs,r≠[])/\o6 rs.flatten/\rs.flatten.length<=40/\
 ∀(o:Addr) (t:List Int) (H':Hp),H o=none->e8 H H'->H' o=some (.lst (t.map V.int))->t.length=rs.flatten.length->(∀r∈rs,∀j,j < r.length->A1 t (r.getD j 0)=some (r.getD ((j+1)%r.length) 0))->Q (.ref o) H'
theorem bs1:l8 ["rounds","told","ring"] ["rounds"] (j5 Z1):=by rfl'
theorem db8 {f:Addr}{fd:FuncData}(F:x6 K "from_rounds" "from_rounds" Z1 f fd)(cF:j7 P w K mg base "are_filled_lists" 1 ["rounds"] av8)(cT:j7 P w K mg base "things_in" 1 ["rounds"] av9)(cI:j7 P w K mg base "is_turn" 2 ["thing"] al2)
   (cS:j7 P w K mg base "send_along" 1 ["target","ring","steps"] ao7):o7 P w K mg base x5 3 f fd ["rounds"] ao8:=by
 refine F.ok bs1 (fun vs H Q E h=> ?_) (fun cdv A outer s H vs Q E hr h=> ?_)
 · obtain ⟨l,as,rs,rfl,_⟩:=h;rfl
 · obtain ⟨l,as,rs,rfl,hl,rows,hne,tf,lf,q⟩:=h;have hr1:l6 1 _:=hr.mono (by decide)
   refine ⟨_,c7 (y9 (K4 (K3 (i4 cF hr1 (c5 (pv 0) c6)))) (e7 O1) q0)
     (c7 (i6 (i:=1) bs1.nd rfl (Or.inl rfl) (i4 cT hr1 (c5 (pv 0) c6)))
     (c7 (y9 (K4 (K3 (i4 cI hr (c5 (pv 1) c6)))) (e7 O1) q0)
     (c7 (l9 PassesOwn.never rfl (t5 (pv 0)) (i9 (i:=2) bs1.nd rfl (Or.inl rfl)) (e7 (p7 (i4 cS hr1 (c5 (pv 1) (c5 (pv 2) (c5 g7 c6)))))))
     (e7 (l5 (pv 1)))))),?_⟩
   refine ⟨_,rfl,l,as,rs,rfl,hl,rows,hne,true,rfl,?_⟩;refine G5 ?_;refine ⟨_,rfl,l,as,rs,rfl,hl,rows,by omega,fun o H1 ho s1 h1o=> ?_⟩;refine ⟨_,rfl,o,_,rfl,h1o,fun bb H2 s2 hbb=>⟨bb,rfl,?_⟩⟩;have:bb=true:=hbb.mpr ⟨lf,tf⟩;subst this;refine G5 ?_;have s02:=s1.trans s2;have h2o:=s2 o _ h1o;have h2l:=s02 l _ hl
   have rows2:m9 H2 as rs:=t9 rows fun c _ u hu=>s02 c u hu
   have nlo:l≠o:=g6 hl ho
   refine ⟨_,rfl,l,rfl,⟨_,i5.of h2l⟩,w4 (K:=K) (a:=l) (xs:=as.map V.ref) (fun i σ H3=>∃(ts:List Int) (v:Option V),σ=[some (.ref l),some (.ref o),v]/\H3 o=some (.lst (ts.map V.int))/\ts.length=rs.flatten.length/\(∀r∈rs.take i,∀j,j < r.length->A1 ts (r.getD j 0)=some (r.getD ((j+1)%r.length) 0))/\i8 o H2 H3)
     ⟨_,none,rfl,h2o,rfl,fun r hr=>by simp at hr,i8.refl o H2⟩ (fun i σ H3 _ zz=>by obtain ⟨_,_,_,_,_,_,k⟩:=zz;exact i5.of (k l _ h2l nlo)) ?_ ?_⟩
   · rintro i y σ H3 hi ⟨ts,v,rfl,h3o,lts,hts,kb⟩;rw[ds9] at hi
     cases hA:as[i]? with
     |none=>rw[hA] at hi;cases hi
     |some e=>
      rw[hA] at hi;cases hi;have hil:i < as.length:=(ds3.mp hA).1;have hri:rs[i]? =some (rs[i]'(by rw[<-rows.1];exact hil)):=ds2 _;generalize hR:(rs[i]'(by rw[<-rows.1];exact hil))=r at hri
      have neo:o≠e:=fun z=>by
        have:=rows.2 i e r hA hri;rw[<-z,ho] at this;cases this
      have h3e:=kb e _ (rows2.2 i e r hA hri) neo.symm;have hrm:r∈rs:=dt2 hri
      have hsplit:rs.flatten=(rs.take i).flatten++(r++(rs.drop (i+1)).flatten):=by
        conv=>lhs;rw[<-dx2 i rs,dx0]
        rw[ea5 (by rw[<-rows.1];exact hil),hR,dt9]
      have nds:=tf.nd;rw[hsplit] at nds;obtain ⟨nd1,nd2,nd3⟩:=dy3.mp nds;obtain ⟨ndr,_,_⟩:=dy3.mp nd2;refine ⟨_,rfl,_,rfl,o,e,ts,r,1,rfl,h3o,h3e,neo,ndr,fun x hx=> ?_,fun ts' H4 l4 hj hu h4o kb4=> ?_⟩
      · have hxf:x∈rs.flatten:=du6.mpr ⟨r,hrm,hx⟩;exact ⟨tf.lo x hxf,by rw[lts];exact tf.hi x hxf⟩
      refine ⟨ts',_,rfl,h4o,by omega,fun r' hr' j hj'=> ?_,kb.trans kb4⟩;rw[i7 hri] at hr'
      rcases dt4.mp hr' with g|g
      · have hx:r'.getD j 0∈(rs.take i).flatten:=by
          rw[N3 hj'];exact du6.mpr ⟨r',g,dw2 hj'⟩
        have hxn:r'.getD j 0∉r:=fun z=>nd3 _ hx _ (dy4 _ z) rfl
        have hx0:0<=r'.getD j 0:=tf.lo _ (by rw[hsplit];exact dy4 _ hx);rw[hu _ hx0 hxn];exact hts r' g j hj'
      · have:r'=r:=by simpa using g
        subst this;have h1:=hj j hj'
        have e1:(((j:Int)+1)%(r'.length:Int)).toNat=(j+1)%r'.length:=by
          have:((j:Int)+1)=((j+1:Nat):Int):=by omega
          rw[this,<-ec9,dx5]
        rw[e1] at h1;exact h1
   · rintro σ H3 ⟨ts,v,rfl,h3o,lts,hts,kb⟩;rw[ds1,rows.1,du7] at hts;exact ⟨_,rfl,q o ts H3 ho (fun b u hb=>kb b u (s02 b u hb) (g6 hb ho)) h3o lts hts⟩
end
end My
namespace My
open PySem L2 Mth
section
variable {P:Program} {w:World} {K:PySem.W.Frag} {mg:Str->Option Value} {base:Heap}
def ar7:Sp:=fun vs H Q _=>∃(n:Int),vs=[.int n]/\1<=n/\Q .non H
theorem dm6:l8 ["number"] ["number"] (j5 O7):=by rfl'
theorem di3 {f:Addr}{fd:FuncData}(F:x6 K "must_be_from_one" "must_be_from_one" O7 f fd)(cW:j7 P w K mg base "is_whole" 1 ["thing"] (ab3 K)):o7 P w K mg base x5 2 f fd ["number"] ar7:=by
 refine F.ok dm6 (fun vs H Q E h=> ?_) (fun cdv A outer s H vs Q E hr h=> ?_)
 · obtain ⟨n,rfl,_⟩:=h;rfl
 · obtain ⟨n,rfl,h1,q⟩:=h;have hr1:l6 1 _:=hr.mono (by decide);refine ⟨_,e7 (y9 (aa1 (K4 (K3 (i4 cW hr1 (c5 (pv 0) c6)))) (ac0 (t6 ay2 (pv 0) g7 (q5 _)))).pt (e7 O1) q0),?_⟩;refine ⟨_,rfl,.int n,_,true,false,rfl,.int n,O3 K "int",U2 K,true,rfl,?_⟩;refine G5 ⟨_,rfl,_,_,rfl,rfl,_,rfl,?_⟩;rw[decide_eq_false (show ¬n < 1 by omega)];exact G5 q
def ct2:Sp:=fun vs H Q _=>∃(l m:Nat),vs=[.int (l:Int),.int (m:Int)]/\1<=l/\l<=1000000000000000000000000000000/\1<=m/\m<=1000000000000000000000000000000/\∀d,M7 l m d->Q (.int ((d:Nat):Int)) H
theorem bs2:l8 ["l","m","least","common"] ["l","m"] (j5 Z2):=by rfl'
theorem dm7 {f:Addr}{fd:FuncData}(F:x6 K "least_right" "least_right" Z2 f fd)(c1:j7 P w K mg base "must_be_from_one" 2 ["number"] ar7)(cG:j7 P w K mg base "greatest_part" 1 ["a","b"] bl9):o7 P w K mg base x5 3 f fd ["l","m"] ct2:=by
 refine F.ok bs2 (fun vs H Q E h=> ?_) (fun cdv A outer s H vs Q E hr h=> ?_)
 · obtain ⟨l,m,rfl,_⟩:=h;rfl
 · obtain ⟨l,m,rfl,l1,l2,m1,m2,q⟩:=h;have hr1:l6 1 _:=hr.mono (by decide)
   refine ⟨_,c7 (p7 (i4 c1 hr (c5 (pv 0) c6))) (c7 (p7 (i4 c1 hr (c5 (pv 1) c6)))
     (c7 (i6 (i:=2) bs2.nd rfl (Or.inl rfl) g7) (c7 (i6 (i:=3) bs2.nd rfl (Or.inl rfl) (i4 cG hr1 (c5 (pv 0) (c5 (pv 1) c6))))
     (c7 (au8 PassesOwn.never (t6 ay4 (pv 3) g7 (q5 _))
       (c7 (i6 (i:=2) bs2.nd rfl (Or.inl rfl) (j6 C4 (pv 2) (pv 3))) (e7 (i6 (i:=3) bs2.nd rfl (Or.inl rfl) (i4 cG hr1 (c5 (pv 0) (c5 (j6 bo6 (pv 1) (pv 2)) c6)))))))
     (e7 (l5 (pv 2))))))),?_⟩
   refine ⟨_,rfl,(l:Int),rfl,by omega,?_⟩;refine ⟨_,rfl,(m:Int),rfl,by omega,?_⟩;refine ⟨_,rfl,_,rfl,l,m,rfl,?_⟩
   refine ⟨fun mm σ H2=>∃d:Nat,σ=[some (.int (l:Int)),some (.int (m:Int)),some (.int (d:Int)),some (.int ((du0 l (m/d):Nat):Int))]/\Y8 l m d/\H2=H/\mm=m - d,
     ⟨m - 1,1,by rw[Nat.div_one];rfl,Y8.start l m,rfl,rfl⟩,?_⟩
   rintro mm σ H2 ⟨d,rfl,up,rfl,rfl⟩;have gle:du0 l (m/d)<=l:=Nat.gcd_le_left _ l1;refine ⟨_,rfl,_,_,rfl,rfl,_,rfl,?_⟩;refine M6 (fun hg=> ?_) (fun hg=> ?_)
   · have hg:(1:Int) < ((du0 l (m/d):Nat):Int):=of_decide_eq_true hg
     have hg1:du0 l (m/d)≠1:=by omega
     obtain ⟨mo1,mo2⟩:=up.more (by omega) hg1;have up':=up.step (by omega);refine ⟨fun σ' H'=>∃m',m' < m - d/\_,fun _ _ h=>h,?_⟩
     have small:d < 18446744073709551616\/du0 l (m/d) < 18446744073709551616:=by
       rcases ej3 d 18446744073709551616 with z|z
       · exact .inl z
       · rcases ej3 (du0 l (m/d)) 18446744073709551616 with y|y
         · exact .inr y
         · have:=ec7 z y;omega
     refine ⟨_,rfl,_,rfl,_,_,rfl,rfl,(by rcases small with z|z;exact .inl ⟨by omega,by omega⟩;exact .inr ⟨by omega,by omega⟩),?_⟩;have e1:((d:Nat):Int)*((du0 l (m/d):Nat):Int)=((d*du0 l (m/d):Nat):Int):=(dy6 _ _).symm;have dp:=up'.pos;refine ⟨_,rfl,_,rfl,_,rfl,_,_,rfl,rfl,⟨by rw[e1];omega,by rw[e1];omega⟩,?_⟩
     have e2:(m:Int)/(((d:Nat):Int)*((du0 l (m/d):Nat):Int))=((m/(d*du0 l (m/d)):Nat):Int):=by rw[e1];exact (Int.natCast_ediv _ _).symm
     dsimp only
     rw[e2];refine ⟨l,m/(d*du0 l (m/d)),rfl,?_⟩;refine ⟨m - d*du0 l (m/d),by omega,d*du0 l (m/d),?_,up',rfl,rfl⟩;show [some (V.int (l:Int)),some (V.int (m:Int)),some (V.int (((d:Nat):Int)*((du0 l (m/d):Nat):Int))),some (V.int ((du0 l (m/(d*du0 l (m/d))):Nat):Int))]=_;rw[e1]
   · have hg:¬(1:Int) < ((du0 l (m/d):Nat):Int):=fun z=>hg (decide_eq_true z)
     have kp:0 < m/d:=Nat.div_pos (ef5 (by omega) up.parts) up.pos;have gp:0 < du0 l (m/d):=ei8 _ kp;exact ⟨_,rfl,q d (up.done (by omega))⟩
end
end My
namespace My
open PySem L2 Mth
section
variable {P:Program} {w:World} {K:PySem.W.Frag} {mg:Str->Option Value} {base:Heap}
theorem ct3 {T J F:List Int}{t:Nat}{u f:Int}(hT:o6 T)(hl:J.length=T.length)(hu:T[t]? =some u)(hf:F[t]? =some f)(h:(T.take t).map (A1 J)=(F.take t).map some):(T.take (t+1)).map (A1 (J.set u.toNat f))=(F.take (t+1)).map some:=by
 have ht:t < T.length:=(ds3.mp hu).1;have hum:=dt2 hu;have u0:=hT.lo u hum;have u1:=hT.hi u hum;rw[i7 hu,i7 hf,dt1,dt1]
 congr 1
 · rw[<-h]
   refine dx6 fun v hv=>az5 (hT.lo v (dy5 hv)) u0 fun e=> ?_
   obtain ⟨j,hj⟩:=dv7.mp hv
   have hjt:j < t:=by
     have:=(ds3.mp hj).1;rw[du1] at this;omega
   rw[dz8 hjt] at hj;have e1:=(ds3.mp hj).2;have e2:=(ds3.mp hu).2;exact dv6.mp (du4.mp hT.nd) j t (by omega) ht hjt (by rw[e1,e2,e])
 · show [A1 (J.set u.toNat f) u]=[some f];rw[av2 (by omega)]
def ao9:Sp:=fun vs H Q _=>∃(a:Addr) (bs:List Addr) (Rs:List (List Int)) (l k:Nat),vs=[.ref a,.int ((Rs.length*k:Nat):Int)]/\H a=some (.lst (bs.map V.ref))/\m9 H bs Rs/\1<=Rs.length/\(∀r∈Rs,r.length=l)/\0 < l/\Rs.length*l<=40/\du0 l k=1/\
 ∀(o:Addr) (J:List Int) (H':Hp),H o=none->e8 H H'->H' o=some (.lst (J.map V.int))->C5 l k Rs J->Q (.ref o) H'
theorem ad8:l8 ["rings","m","whole","joined","lane","ring","step","thing"] ["rings","m"] (j5 ad5):=by rfl'
theorem db9 {f:Addr}{fd:FuncData}(F:x6 K "join_rings" "join_rings" ad5 f fd)(B:Bl mg):o7 P w K mg base x5 1 f fd ["rings","m"] ao9:=by
 refine F.ok ad8 (fun vs H Q E h=> ?_) (fun cdv A outer s H vs Q E hr h=> ?_)
 · obtain ⟨a,bs,Rs,l,k,rfl,_⟩:=h;rfl
 · obtain ⟨a,bs,Rs,l,k,rfl,ha,rows,d1,hRl,l0,dl,cop,q⟩:=h
   refine ⟨_,c7 (i6 (i:=2) ad8.nd rfl (Or.inl rfl) (j6 C4 (y7 B.len (c5 (pv 0) c6)) (y7 B.len (c5 (G9 C1 (pv 0) g7 (fun _ _=>rfl)) c6))))
     (c7 (i6 (i:=3) ad8.nd rfl (Or.inl rfl) (j6 df7 (p8 (c5 g7 c6)) (pv 2)))
     (c7 (l9 PassesOwn.never rfl (ai1 B.enum (c5 (pv 0) c6)) (T9 rfl (A3 (i9 (i:=4) ad8.nd rfl (Or.inl rfl)) (A3 (i9 (i:=5) ad8.nd rfl (Or.inl rfl)) Q1)))
       (e7 (l9 PassesOwn.never rfl (ai1 B.enum (c5 (pv 5) c6)) (T9 rfl (A3 (i9 (i:=6) ad8.nd rfl (Or.inl rfl)) (A3 (i9 (i:=7) ad8.nd rfl (Or.inl rfl)) Q1)))
         (e7 (an2 (pv 7) (an1 (pv 3) (j6 R6 (j6 x3 (pv 4) (j6 C4 (pv 6) (pv 1))) (pv 2)) ac2))))))
     (e7 (l5 (pv 3))))),?_⟩
   have lb:bs.length=Rs.length:=rows.1;have dR:Rs.length<=Rs.length*l:=dw6 _ l0;have lR:l<=Rs.length*l:=eg9 _ (by omega);have hb0:bs[0]? =some (bs[0]'(by omega)):=ds2 _;generalize (bs[0]'(by omega))=b0 at hb0;have hr0:Rs[0]? =some (Rs[0]'(by omega)):=ds2 _;have lr0:(Rs[0]'(by omega)).length=l:=hRl _ (dw2 _);generalize (Rs[0]'(by omega))=r0 at hr0 lr0;have h0:=rows.2 0 b0 r0 hb0 hr0;refine ⟨_,rfl,a,_,rfl,.inl (i5.of ha),_,rfl,a,_,_,_,rfl,rfl,i5.of ha,K1 (j:=0) (by rw[ds9,hb0];rfl),b0,_,rfl,.inl (i5.of h0),_,_,rfl,rfl,.inl ⟨by rw[ds1];omega,by rw[ds1];omega⟩,?_⟩;rw[ds1,ds1,lb,lr0]
   dsimp only
   have ew:((Rs.length:Nat):Int)*((l:Nat):Int)=((Rs.length*l:Nat):Int):=(dy6 _ _).symm;rw[ew];obtain ⟨D,hD⟩:∃D,D=Rs.length:=⟨_,rfl⟩;rw[<-hD] at d1 dl lb dR lR ⊢;obtain ⟨N,hN⟩:∃N,N=D*l:=⟨_,rfl⟩;rw[<-hN] at dl dR lR ⊢;refine ⟨(by show 1<=sizeLine;decide),fun e he=> ?_⟩;refine ⟨_,rfl,e,_,_,rfl,rfl,c8,by omega,by omega,by show 1*_<=sizeLine;rw[sizeLine_eq];omega,fun n hn=> ?_⟩;rw[show ((N:Nat):Int).toNat=N by omega,cr1]
   have hne:n≠e:=fun z=>by rw[z,c8] at hn;cases hn
   have hn0:H n=none:=by rw[g8 hne] at hn;exact hn
   have s1:e8 H (c9 (c9 H e (.lst [.int 0])) n (.lst ((dw8 N (0:Int)).map V.int))):=(e8.upd_new he).upd_r hn0;have h1n:(c9 (c9 H e (.lst [.int 0])) n (.lst ((dw8 N (0:Int)).map V.int))) n=some (.lst ((dw8 N (0:Int)).map V.int)):=c8;generalize (c9 (c9 H e (.lst [.int 0])) n (.lst ((dw8 N (0:Int)).map V.int)))=H1 at s1 h1n ⊢;have T:=ak3 (d:=D) l0 cop;have lT:=W5 D l k;obtain ⟨fl,fg⟩:=ad0 l0 hRl
   refine ⟨_,rfl,a,rfl,⟨_,i5.of (s1 a _ ha)⟩,ac8 (K:=K) (a:=a) (xs:=bs.map V.ref) (fun i σ H2=>∃(J:List Int) (v4 v5 v6 v7:Option V),σ=[some (.ref a),some (.int ((D*k:Nat):Int)),some (.int ((N:Nat):Int)),some (.ref n),v4,v5,v6,v7]/\H2 n=some (.lst (J.map V.int))/\J.length=N/\((O4 D l k).take (i*l)).map (A1 J)=(Rs.flatten.take (i*l)).map some/\e8 H H2)
     ⟨_,none,none,none,none,rfl,h1n,by rw[ee3],by rw[ed7];rfl,s1⟩ (fun i σ H2 _ zz=>by obtain ⟨_,_,_,_,_,_,_,_,_,s⟩:=zz;exact i5.of (s a _ ha)) ?_ ?_⟩
   · rintro i y σ H2 t hi ⟨J,v4,v5,v6,v7,rfl,h2n,lJ,hmap,s2⟩ ht;rw[ds9] at hi
     cases hA:bs[i]? with
     |none=>rw[hA] at hi;cases hi
     |some b=>
      rw[hA] at hi;cases hi;have hil:i < bs.length:=(ds3.mp hA).1
      have hiD:i < D:=by omega
      have hri:Rs[i]? =some (Rs[i]'(by omega)):=ds2 _;have lri:(Rs[i]'(by omega)).length=l:=hRl _ (dw2 _);generalize (Rs[i]'(by omega))=r at hri lri;have hrow:=rows.2 i b r hA hri;have s23:e8 H2 (c9 H2 t (.tup [.int (i:Int),.ref b])):=e8.upd_new ht;refine ⟨t,_,rfl,T2.of c8,rfl,_,_,rfl,_,_,rfl,rfl,?_⟩;generalize (c9 H2 t (.tup [.int (i:Int),.ref b]))=H3 at s23 ⊢;have s3:=s2.trans s23;have h3b:=s3 b _ hrow
      refine ⟨_,rfl,b,rfl,⟨_,i5.of h3b⟩,ac8 (K:=K) (a:=b) (xs:=r.map V.int) (fun j σ H4=>∃(J:List Int) (v6 v7:Option V),σ=[some (.ref a),some (.int ((D*k:Nat):Int)),some (.int ((N:Nat):Int)),some (.ref n),some (.int (i:Int)),some (.ref b),v6,v7]/\H4 n=some (.lst (J.map V.int))/\J.length=N/\((O4 D l k).take (i*l+j)).map (A1 J)=(Rs.flatten.take (i*l+j)).map some/\e8 H H4)
        ⟨J,v6,v7,rfl,s23 n _ h2n,lJ,hmap,s3⟩ (fun j σ H4 _ zz=>by obtain ⟨_,_,_,_,_,_,_,s⟩:=zz;exact i5.of (s b _ hrow)) ?_ ?_⟩
      · rintro j y σ H4 t2 hj ⟨J,v6,v7,rfl,h4n,lJ,hmap,s4⟩ ht2;obtain ⟨z,hz,rfl⟩:=C9 hj
        have hjl:j < l:=by rw[<-lri];exact (ds3.mp hz).1
        have s45:e8 H4 (c9 H4 t2 (.tup [.int (j:Int),.int z])):=e8.upd_new ht2;refine ⟨t2,_,rfl,T2.of c8,rfl,_,_,rfl,_,_,rfl,rfl,?_⟩;generalize (c9 H4 t2 (.tup [.int (j:Int),.int z]))=H5 at s45 ⊢;have h5n:=s45 n _ h4n
        have tlt:i*l+j < D*l:=by
          calc i*l+j < i*l+l:=by omega
            _=(i+1)*l:=by rw[ed5]
            _<=D*l:=dz5 l hiD
        have dv1:(i*l+j)/l=i:=by rw[dy8,en8 l0,en0 hjl,ea9]
        have dv2:(i*l+j)%l=j:=by rw[dy8,en9,dy0 hjl]
        have hTt:(O4 D l k)[i*l+j]? =some ((G6 D l k i j:Nat):Int):=by
          unfold O4;rw[ds9,dw9 tlt];show some ((G6 D l k ((i*l+j)/l) ((i*l+j)%l):Nat):Int)=_;rw[dv1,dv2]
        have hFt:Rs.flatten[i*l+j]? =some z:=by
          rw[fg i j (by omega) hjl,ds7,hri];exact hz
        have ep:((i:Int)+(j:Int)*((D*k:Nat):Int))%((N:Nat):Int)=((G6 D l k i j:Nat):Int):=by
          rw[<-bd7 hiD l0,<-dy6,<-eh0,<-ec9,hN]
        have plt:G6 D l k i j < D*l:=ai5 hiD l0;refine ⟨_,rfl,_,rfl,_,rfl,_,rfl,_,rfl,_,_,rfl,rfl,.inl ⟨by omega,by omega⟩,_,_,rfl,rfl,_,rfl,_,_,rfl,rfl,(by show (0:Int) < (N:Int);omega),?_⟩
        dsimp only
        rw[ep];refine ⟨n,_,_,G6 D l k i j,rfl,rfl,h5n,?_,?_⟩
        · unfold ixN;rw[ds1,if_pos (by omega),if_pos (by omega)];rfl
        have es:(J.map V.int).set (G6 D l k i j) (.int z)=(J.set (G6 D l k i j) z).map V.int:=by rw[List.map_set]
        rw[es];refine ⟨_,_,_,rfl,c8,by rw[ei6];exact lJ,?_,fun c o hc=>by rw[g8 (g6 hc hn0)];exact s45 c o (s4 c o hc)⟩;have:=ct3 (J:=J) T (by rw[lT];omega) hTt hFt hmap;rw[dx5] at this;exact this
      · rintro σ H4 ⟨J,v6,v7,rfl,h4n,lJ,hmap,s4⟩;rw[ds1,lri] at hmap;refine ⟨J,_,_,_,_,rfl,h4n,lJ,?_,s4⟩;rw[ed5];exact hmap
   · rintro σ H2 ⟨J,v4,v5,v6,v7,rfl,h2n,lJ,hmap,s2⟩;rw[ds1,lb,eb4 (by rw[lT];exact ds4 _),eb4 (by rw[fl,<-hD];exact ds4 _)] at hmap;refine ⟨_,rfl,q n J H2 hn0 s2 h2n ⟨by rw[lJ,hN,hD],by rw[<-hD];exact hmap⟩⟩
end
end My
namespace My
open PySem L2 Mth
section
variable {P:Program} {w:World} {K:PySem.W.Frag} {mg:Str->Option Value} {base:Heap}
def o8 (es:List (Nat×Addr)):List (o3×V):=es.map fun e=>(Sum.inl (e.1:Int),V.ref e.2)
theorem bs3 {es:List (Nat×Addr)}{l:Nat}{v:V}(h:A7 (o8 es) (Sum.inl (l:Int))=some v):∃e∈es,e.1=l/\v= .ref e.2:=by
 unfold A7 at h
 cases hf:(o8 es).find? (fun kv=>decide (kv.1=Sum.inl (l:Int))) with
 |none=>rw[hf] at h;cases h
 |some kv=>
  rw[hf] at h;have hk:=of_decide_eq_true (List.find?_some (p:=fun kv:o3×V=>decide (kv.1=Sum.inl (l:Int))) hf);obtain ⟨e,he,rfl⟩:=dt0.mp (List.mem_of_find?_eq_some hf);have hk':(Sum.inl (e.1:Int):o3)=Sum.inl (l:Int):=hk;have:=Sum.inl.inj hk';exact ⟨e,he,by omega,(Option.some.inj h).symm⟩
theorem bs4 {es:List (Nat×Addr)}{l:Nat}(h:A7 (o8 es) (Sum.inl (l:Int))=none):l∉es.map (·.1):=by
 intro hm;obtain ⟨e,he,rfl⟩:=dt0.mp hm;unfold A7 at h;have h':=Option.map_eq_none_iff.mp h;exact List.find?_eq_none.mp h' (Sum.inl (e.1:Int),V.ref e.2) (dt0.mpr ⟨e,he,rfl⟩) (by simp)
theorem be5 {α β:Type}:∀{es:List (α×β)},(es.map (·.1)).Nodup->∀{e f:α×β},e∈es->f∈es->e.1=f.1->e=f
 |[],_,e,f,h,_,_=>by simp at h
 |x::es,nd,e,f,he,hf,h=>by
  obtain ⟨n1,n2⟩:=dw4.mp nd
  rcases dt7.mp he with z|z
  · rcases dt7.mp hf with y|y
    · rw[z,y]
    · exact absurd (dt0.mpr ⟨f,y,by rw[<-h,z]⟩) n1
  · rcases dt7.mp hf with y|y
    · exact absurd (dt0.mpr ⟨e,z,by rw[h,y]⟩) n1
    · exact be5 n2 z y h
theorem ca4 {α β:Type}:∀{es:List (α×β)},(es.map (·.2)).Nodup->∀{e f:α×β},e∈es->f∈es->e.2=f.2->e=f
 |[],_,e,f,h,_,_=>by simp at h
 |x::es,nd,e,f,he,hf,h=>by
  obtain ⟨n1,n2⟩:=dw4.mp nd
  rcases dt7.mp he with z|z
  · rcases dt7.mp hf with y|y
    · rw[z,y]
    · exact absurd (dt0.mpr ⟨f,y,by rw[<-h,z]⟩) n1
  · rcases dt7.mp hf with y|y
    · exact absurd (dt0.mpr ⟨e,z,by rw[h,y]⟩) n1
    · exact ca4 n2 z y h
theorem bb1 {es:List (Nat×Addr)}(nd:(es.map (·.1)).Nodup){e:Nat×Addr}(he:e∈es):A7 (o8 es) (Sum.inl (e.1:Int))=some (.ref e.2):=by
 cases h:A7 (o8 es) (Sum.inl (e.1:Int)) with
 |none=>exact absurd (dt0.mpr ⟨e,he,rfl⟩) (bs4 h)
 |some v=>
  obtain ⟨f,hf,h1,rfl⟩:=bs3 h;rw[be5 nd hf he h1]
theorem ca5 {rs:List (List Int)}{r:List Int}{l:Nat}(h:r.length=l):w9 (rs++[r]) l=w9 rs l++[r]:=by
 unfold w9;rw[ed2,ec5 (by simpa using h),ef2]
theorem ca6 {rs:List (List Int)}{r:List Int}{l:Nat}(h:r.length≠l):w9 (rs++[r]) l=w9 rs l:=by
 unfold w9;rw[ed2,ec6 (by simpa using h),ef2,du8]
theorem ct4 {rs:List (List Int)}{l:Nat}(h:∀r∈rs,r.length≠l):w9 rs l=[]:=by
 unfold w9
 exact List.filter_eq_nil_iff.mpr fun r hr=>by simpa using h r hr
structure cn2 (H0 H:Hp)(d:Addr)(es:List (Nat×Addr))(rs:List (List Int)):Prop where
 nk:(es.map (·.1)).Nodup
 na:(es.map (·.2)).Nodup
 row:∀e∈es,∃cs:List Addr,H e.2=some (.lst (cs.map V.ref))/\m9 H0 cs (w9 rs e.1)
 key:∀k∈es.map (·.1),∃r∈rs,r.length=k
 all:∀r∈rs,r.length∈es.map (·.1)
 nd:∀e∈es,e.2≠d
def ab5:Sp:=fun vs H Q _=>∃(a:Addr) (as:List Addr) (rs:List (List Int)),vs=[.ref a]/\H a=some (.lst (as.map V.ref))/\m9 H as rs/\rs.length<=40/\
 ∀(d:Addr) (es:List (Nat×Addr)) (H':Hp),H d=none->e8 H H'->H' d=some (.dK (o8 es))->cn2 H H' d es rs->es.length<=40->(∀e∈es,H e.2=none)->Q (.ref d) H'
theorem bs5:l8 ["rings","by_length","ring"] ["rings"] (j5 S7):=by rfl'
theorem ct5 {f:Addr}{fd:FuncData}(F:x6 K "sort_by_length" "sort_by_length" S7 f fd)(B:Bl mg):o7 P w K mg base x5 1 f fd ["rings"] ab5:=by
 refine F.ok bs5 (fun vs H Q E h=> ?_) (fun cdv A outer s H vs Q E hr h=> ?_)
 · obtain ⟨a,as,rs,rfl,_⟩:=h;rfl
 · obtain ⟨a,as,rs,rfl,ha,rows,lrs,q⟩:=h
   refine ⟨_,c7 (i6 (i:=1) bs5.nd rfl (Or.inl rfl) ac5)
     (c7 (l9 PassesOwn.never rfl (t5 (pv 0)) (i9 (i:=2) bs5.nd rfl (Or.inl rfl))
       (e7 (p7 (x8 (cl1 (pv 1) (c5 (y7 B.len (c5 (pv 2) c6)) (c5 (p8 c6) c6))) (c5 (pv 2) c6)))))
     (e7 (l5 (pv 1)))),?_⟩
   refine fun d hd=> ?_
   have s1:e8 H (c9 H d (.dK [])):=e8.upd_new hd;have h1d:(c9 H d (.dK [])) d=some (.dK (o8 [])):=c8;generalize (c9 H d (.dK []))=H1 at s1 h1d ⊢
   refine ⟨_,rfl,a,rfl,⟨_,i5.of (s1 a _ ha)⟩,w4 (K:=K) (a:=a) (xs:=as.map V.ref) (fun i σ H2=>∃(es:List (Nat×Addr)) (v2:Option V),σ=[some (.ref a),some (.ref d),v2]/\H2 d=some (.dK (o8 es))/\cn2 H H2 d es (rs.take i)/\es.length<=i/\(∀e∈es,H e.2=none)/\e8 H H2)
     ⟨[],none,rfl,h1d,⟨dz9,dz9,fun e h=>by simp at h,fun k h=>by simp at h,fun r h=>by simp at h,fun e h=>by simp at h⟩,ds4 _,fun e h=>by simp at h,s1⟩ (fun i σ H2 _ zz=>by obtain ⟨_,_,_,_,_,_,_,s⟩:=zz;exact i5.of (s a _ ha)) ?_ ?_⟩
   · rintro i y σ H2 hi ⟨es,v2,rfl,h2d,bl,les,fr,s2⟩;rw[ds9] at hi
     cases hA:as[i]? with
     |none=>rw[hA] at hi;cases hi
     |some b=>
      rw[hA] at hi;cases hi;have hil:i < as.length:=(ds3.mp hA).1;have hri:rs[i]? =some (rs[i]'(by rw[<-rows.1];exact hil)):=ds2 _;generalize (rs[i]'(by rw[<-rows.1];exact hil))=r at hri;have hb0:=rows.2 i b r hA hri;have hb:=s2 b _ hb0
      have hi40:i < 40:=by have:=rows.1;omega
      have et:rs.take (i+1)=rs.take i++[r]:=i7 hri;refine ⟨_,rfl,.inr (.inr (.inl ⟨rfl,.inl ⟨_,h2d⟩⟩)),_,rfl,b,_,rfl,.inl (i5.of hb),du3 _,fun e he=> ?_⟩;rw[ds1];have nde:d≠e:=g6 h2d he;have s23:e8 H2 (c9 H2 e (.lst [])):=e8.upd_new he;have h3e:(c9 H2 e (.lst [])) e=some (.lst []):=c8
      have kp:∀c,c≠e->(c9 H2 e (.lst [])) c=H2 c:=fun c hc=>g8 hc
      generalize (c9 H2 e (.lst []))=H3 at s23 h3e kp ⊢;refine ⟨d,o8 es,Sum.inl (r.length:Int),.ref e,rfl,rfl,s23 d _ h2d,?_,fun v hv=> ?_,fun hn=> ?_⟩
      · unfold o8;rw[ds1,sizeLine_eq];omega
      · obtain ⟨e0,he0,hl0,rfl⟩:=bs3 hv;obtain ⟨cs,hcs,rcs⟩:=bl.row e0 he0;have h3x:=s23 e0.2 _ hcs
        have lx:(cs.map V.ref).length<=1000:=by
          rw[ds1,rcs.1];have:=ee6 (fun r=>decide (r.length=e0.1)) (rs.take i);rw[du1] at this;unfold w9;omega
        refine ⟨.inl ⟨rfl,_,i5.of h3x⟩,_,rfl,e0.2,_,_,rfl,rfl,h3x,o9 lx,?_⟩;refine ⟨es,_,rfl,by rw[g8 (bl.nd e0 he0).symm];exact s23 d _ h2d,⟨bl.nk,bl.na,fun e1 he1=> ?_,fun k hk=> ?_,fun r' hr'=> ?_,bl.nd⟩,by omega,fr,fun c o hc=>by rw[g8 (g6 hc (fr e0 he0))];exact s23 c o (s2 c o hc)⟩
        · by_cases h12:e1.2=e0.2
          · have:e1=e0:=ca4 bl.na he1 he0 h12;subst this;refine ⟨cs++[b],by rw[c8,dt1];rfl,?_⟩;rw[et,ca5 hl0.symm];exact K7 rcs hb0
          · obtain ⟨ys,hys,rys⟩:=bl.row e1 he1;refine ⟨ys,by rw[g8 h12];exact s23 _ _ hys,?_⟩;rw[et,ca6 (fun z=>h12 (by rw[be5 bl.nk he1 he0 (by omega)]))];exact rys
        · obtain ⟨r',hr',e⟩:=bl.key k hk;exact ⟨r',by rw[et];exact dy4 _ hr',e⟩
        · rw[et] at hr'
          rcases dt4.mp hr' with z|z
          · exact bl.all r' z
          · have:r'=r:=by simpa using z
            rw[this];exact dt0.mpr ⟨e0,he0,hl0⟩
      · have hnk:=bs4 hn
        have ekv:o8 es++[(Sum.inl (r.length:Int),V.ref e)]=o8 (es++[(r.length,e)]):=by unfold o8;rw[dt1];rfl
        rw[ekv]
        have h4e:(c9 H3 d (.dK (o8 (es++[(r.length,e)])))) e=some (.lst []):=by rw[g8 nde.symm];exact h3e
        refine ⟨.inl ⟨rfl,_,i5.of h4e⟩,_,rfl,e,_,_,rfl,rfl,h4e,o9 (du3 _),?_⟩
        have hne:∀e1∈es,e1.2≠e:=fun e1 he1 z=>by
          obtain ⟨ys,hys,_⟩:=bl.row e1 he1;rw[z,he] at hys;cases hys
        refine ⟨es++[(r.length,e)],_,rfl,by rw[g8 nde,c8],⟨?_,?_,fun e1 he1=> ?_,fun k hk=> ?_,fun r' hr'=> ?_,fun e1 he1=> ?_⟩,by rw[ds8];show es.length+1<=i+1;omega,fun e1 he1=> ?_,fun c o hc=> ?_⟩
        · rw[dt1,dy3];refine ⟨bl.nk,by simp,fun x hx y hy=> ?_⟩
          have:y=r.length:=by simpa using hy
          rw[this]
          exact fun z=>hnk (by rw[<-z];exact hx)
        · rw[dt1,dy3];refine ⟨bl.na,by simp,fun x hx y hy=> ?_⟩
          have:y=e:=by simpa using hy
          rw[this];obtain ⟨e1,he1,rfl⟩:=dt0.mp hx;exact hne e1 he1
        · rcases dt4.mp he1 with z|z
          · obtain ⟨ys,hys,rys⟩:=bl.row e1 z;refine ⟨ys,by rw[g8 (hne e1 z),g8 (bl.nd e1 z),kp _ (hne e1 z)];exact hys,?_⟩;rw[et,ca6 (fun y=>hnk (by rw[y];exact dt0.mpr ⟨e1,z,rfl⟩))];exact rys
          · have:e1=(r.length,e):=by simpa using z
            subst this;refine ⟨[b],c8,?_⟩;show m9 H [b] (w9 (rs.take (i+1)) r.length);rw[et,ca5 rfl,ct4 (fun r' hr' y=>hnk (by rw[<-y];exact bl.all r' hr'))];exact K7 (as:=[]) (rs:=[]) ⟨rfl,fun j a r h=>by simp at h⟩ hb0
        · rw[dt1] at hk
          rcases dt4.mp hk with z|z
          · obtain ⟨r',hr',e⟩:=bl.key k z;exact ⟨r',by rw[et];exact dy4 _ hr',e⟩
          · have:k=r.length:=by simpa using z
            exact ⟨r,by rw[et];exact dv5 _ (by simp),this.symm⟩
        · rw[et] at hr';rw[dt1]
          rcases dt4.mp hr' with z|z
          · exact dy4 _ (bl.all r' z)
          · have:r'=r:=by simpa using z
            rw[this];exact dv5 _ (by simp)
        · rcases dt4.mp he1 with z|z
          · exact bl.nd e1 z
          · have:e1=(r.length,e):=by simpa using z
            subst this;exact nde.symm
        · rcases dt4.mp he1 with z|z
          · exact fr e1 z
          · have:e1=(r.length,e):=by simpa using z
            subst this;exact s2.free he
        · have h2c:=s2 c o hc;rw[g8 (g6 h2c he),g8 (g6 hc hd),kp _ (g6 h2c he)];exact h2c
   · rintro σ H2 ⟨es,v2,rfl,h2d,bl,les,fr,s2⟩;rw[ds1,rows.1,du7] at bl;rw[ds1,rows.1] at les;exact ⟨_,rfl,q d es H2 hd s2 h2d bl (by omega) fr⟩
end
end My
namespace My
open PySem L2 Mth
section
variable {P:Program} {w:World} {K:PySem.W.Frag} {mg:Str->Option Value} {base:Heap}
def JL (m:Nat)(rs:List (List Int)):List (List Int)->List (List (List Int))->Prop
 |[],[]=>True
 |J::qs,Rs::Rss=>JO m rs J Rs/\JL m rs qs Rss
 |_,_=>False
theorem ca7 {m:Nat}{rs:List (List Int)}:∀{qs:List (List Int)} {Rss:List (List (List Int))} {J:List Int} {Rs:List (List Int)},JL m rs qs Rss->JO m rs J Rs->JL m rs (qs++[J]) (Rss++[Rs])
 |[],[],_,_,_,h=>⟨h,trivial⟩
 |[],_::_,_,_,h,_=>h.elim
 |_::_,[],_,_,h,_=>h.elim
 |_::_,_::_,_,_,⟨a,b⟩,h=>⟨a,ca7 b h⟩
theorem ca8 {m:Nat}{rs:List (List Int)}:∀{qs:List (List Int)} {Rss:List (List (List Int))},JL m rs qs Rss->qs.flatten.Perm Rss.flatten.flatten
 |[],[],_=>List.Perm.refl _
 |[],_::_,h=>h.elim
 |_::_,[],h=>h.elim
 |J::qs,Rs::Rss,⟨⟨l,k,l0,_,c,_,_,hj,_⟩,b⟩=>by
  rw[dt9,dt9,dx0];exact List.Perm.append (hj.perm l0 c) (ca8 b)
theorem cf1 {m:Nat}{rs:List (List Int)}:∀{qs:List (List Int)} {Rss:List (List (List Int))},JL m rs qs Rss->∀{Rs:List (List Int)},Rs∈Rss->∃J∈qs,JO m rs J Rs
 |[],[],_,_,h=>by simp at h
 |[],_::_,h,_,_=>h.elim
 |_::_,[],h,_,_=>h.elim
 |J::qs,Rs::Rss,⟨a,b⟩,R,h=>by
  rcases dt7.mp h with e|e
  · rw[e];exact ⟨J,ds5,a⟩
  · obtain ⟨J',h1,h2⟩:=cf1 b e;exact ⟨J',ds6 _ h1,h2⟩
theorem be6 {m:Nat}{rs:List (List Int)}:∀{qs:List (List Int)} {Rss:List (List (List Int))},JL m rs qs Rss->∀{J:List Int},J∈qs->∃Rs∈Rss,JO m rs J Rs
 |[],[],_,_,h=>by simp at h
 |[],_::_,h,_,_=>h.elim
 |_::_,[],h,_,_=>h.elim
 |J::qs,Rs::Rss,⟨a,b⟩,R,h=>by
  rcases dt7.mp h with e|e
  · rw[e];exact ⟨Rs,ds5,a⟩
  · obtain ⟨J',h1,h2⟩:=be6 b e;exact ⟨J',ds6 _ h1,h2⟩
theorem cx5 {m:Nat}{rs Rs:List (List Int)}{J:List Int}(h:JO m rs J Rs):J≠[]:=by
 obtain ⟨l,k,l0,_,_,_,d1,hj,_⟩:=h;intro e;have:=hj.len;rw[e] at this;have:0 < Rs.length*l:=ea3 (by omega) l0;simp only[ef0] at*;omega
theorem bj4:∀{ks:List Nat} {rs:List (List Int)},ks.Nodup->(∀r∈rs,r.length∈ks)->((ks.map (w9 rs)).flatten).Perm rs
 |[],rs,_,h=>by
  cases rs with
  |nil=>exact List.Perm.refl _
  |cons r rs=>exact absurd (h r ds5) (by simp)
 |k::ks,rs,nd,h=>by
  obtain ⟨n1,n2⟩:=dw4.mp nd
  have e:ks.map (w9 rs)=ks.map (w9 (rs.filter fun r=> !decide (r.length=k))):=dx6 fun l hl=>by
    unfold w9;rw[List.filter_filter]
    refine ej8 fun r hr=> ?_
    by_cases z:r.length=l
    · have:r.length≠k:=fun y=>n1 (by rw[<-y,z];exact hl)
      simp [z,this] at*
      exact fun y=>this (by rw[<-y])
    · simp [z]
  rw[du9,dt9,e]
  have ih:=bj4 (ks:=ks) (rs:=rs.filter fun r=> !decide (r.length=k)) n2 fun r hr=>by
    obtain ⟨h1,h2⟩:=dx8.mp hr;have:=h r h1
    rcases dt7.mp this with y|y
    · simp [y] at h2
    · exact y
  exact (List.Perm.append_left _ ih).trans (List.filter_append_perm (fun r:List Int=>decide (r.length=k)) rs)
theorem cf2 {H:Hp}{as:List Addr}{rs:List (List Int)}(h:m9 H as rs)(b n:Nat):m9 H ((as.drop b).take n) ((rs.drop b).take n):=by
 refine ⟨by rw[du1,du1,dx1,dx1,h.1],fun j a r h1 h2=> ?_⟩
 by_cases hj:j < n
 · rw[dz8 hj,eg4] at h1 h2;exact h.2 _ a r h1 h2
 · have:=(ds3.mp h1).1;rw[du1] at this;omega
theorem aj1 (g:List Int->Bool):∀rs:List (List Int),(rs.filter g).flatten.length<=rs.flatten.length
 |[]=>ds4 _
 |r::rs=>by
  have ih:=aj1 g rs;rw[List.filter_cons]
  split
  · rw[dt9,dt9,ds8,ds8];omega
  · rw[dt9,ds8];omega
theorem bj5:∀{qs:List (List Int)} {J:List Int},qs.flatten.Nodup->J∈qs->J.Nodup
 |[],_,_,h=>by simp at h
 |q::qs,J,nd,h=>by
  rw[dt9,dy3] at nd
  rcases dt7.mp h with e|e
  · rw[e];exact nd.1
  · exact bj5 nd.2.1 e
def bs6:Sp:=fun vs H Q _=>∃(a:Addr) (p:List Int) (m:Nat),vs=[.ref a,.int (m:Int)]/\R8 H a p/\1<=m/\m<=1000000000000000000000000000000/\
 (∀(t o:Addr) (r:List Int) (H':Hp),e8 H H'->H' t=some (.tup [.str "root",.ref o])->H o=none->H' o=some (.lst (r.map V.int))->o6 r->r.length=p.length->B7 r (m:Int) p->bq0 p m r->Q (.ref t) H')/\
 (∀(t:Addr) (l c d:Nat) (H':Hp),e8 H H'->H' t=some (.tup [.str "bars",.int (l:Int),.int (c:Int),.int (d:Int)])->c=l7 (j9 p p.length) l->1<=c->M7 l m d->¬d∣c->(∀r∈j9 p p.length,r.length < l->∀e,M7 r.length m e->e∣l7 (j9 p p.length) r.length)->Q (.ref t) H')
theorem Y0:l8 ["p","m","by_length","joined","length","rings","many","least","begin"] ["p","m"] (j5 ag6):=by rfl'
theorem dc0 {f:Addr}{fd:FuncData}(F:x6 K "root_told" "root_told" ag6 f fd)(B:Bl mg)(cR:j7 P w K mg base "rounds_of" 4 ["p"] Q7)(cS:j7 P w K mg base "sort_by_length" 1 ["rings"] ab5)(c1:j7 P w K mg base "must_be_from_one" 2 ["number"] ar7)
   (cLR:j7 P w K mg base "least_right" 3 ["l","m"] ct2) (cJ:j7 P w K mg base "join_rings" 1 ["rings","m"] ao9) (cF:j7 P w K mg base "from_rounds" 3 ["rounds"] ao8):o7 P w K mg base x5 5 f fd ["p","m"] bs6:=by
 refine F.ok Y0 (fun vs H Q E h=> ?_) (fun cdv A outer s H vs Q E hr h=> ?_)
 · obtain ⟨a,p,m,rfl,_⟩:=h;rfl
 · obtain ⟨a,p,m,rfl,⟨ha,tp,lp⟩,m1,m2,q1,q2⟩:=h;have hr1:l6 1 _:=hr.mono (by decide);have hr2:l6 2 _:=hr.mono (by decide);have hr3:l6 3 _:=hr.mono (by decide);have hu:=X1 hr
   refine ⟨_,c7 (i6 (i:=2) Y0.nd rfl (Or.inl rfl) (i4 cS hr1 (c5 (i4 cR hr (c5 (pv 0) c6)) c6)))
     (c7 (p7 (i4 c1 hr2 (c5 (pv 1) c6)))
     (c7 (i6 (i:=3) Y0.nd rfl (Or.inl rfl) (p8 c6))
     (c7 (l9 PassesOwn.never rfl (t5 (ce1 rfl B.sorted (c5 (pv 2) c6))) (i9 (i:=4) Y0.nd rfl (Or.inl rfl))
       (c7 (i6 (i:=5) Y0.nd rfl (Or.inl rfl) (ah9 hu (pv 2) (pv 4) (fun _ _=>rfl)))
       (c7 (i6 (i:=6) Y0.nd rfl (Or.inl rfl) (y7 B.len (c5 (pv 5) c6)))
       (c7 (i6 (i:=7) Y0.nd rfl (Or.inl rfl) (i4 cLR hr3 (c5 (pv 4) (c5 (pv 1) c6))))
       (c7 (y9 (t6 aq3 (j6 R6 (pv 6) (pv 7)) g7 (q5 _)) (e7 (l5 (an4 (c5 bm6 (c5 (pv 4) (c5 (pv 6) (c5 (pv 7) c6))))))) q0)
       (e7 (l9 PassesOwn.never rfl (cl6 (by rfl) B.range (c5 g7 (c5 (pv 6) (c5 (pv 7) c6)))) (i9 (i:=8) Y0.nd rfl (Or.inl rfl))
         (e7 (p7 (x8 (pv 3) (c5 (i4 cJ hr1 (c5 (W0 ab0 (pv 5) (V9 (pv 8)) (V9 (j6 x3 (pv 8) (pv 7)))) (c5 (pv 1) c6))) c6)))))))))))
     (e7 (l5 (an4 (c5 bm6 (c5 (i4 cF hr3 (c5 (pv 3) c6)) c6)))))))),?_⟩
   refine ⟨_,rfl,a,p,rfl,⟨ha,tp,lp⟩,fun ro as rs H1 hro s1 h1ro rows up fa nda nra=> ?_⟩;have cl:=ad7 up;have fl:=X9 tp up;have ers:rs=j9 p p.length:=up.eq;refine ⟨ro,as,rs,rfl,h1ro,rows,by omega,fun d es H2 hd s12 h2d bl les fre=> ?_⟩;have s02:=s1.trans s12;refine ⟨_,rfl,(m:Int),rfl,by omega,?_⟩;refine ⟨du3 _,fun jo hjo=> ?_⟩;have ndj:d≠jo:=g6 h2d hjo;have s23:e8 H2 (c9 H2 jo (.lst [])):=e8.upd_new hjo;have h3j:(c9 H2 jo (.lst [])) jo=some (.lst []):=c8;generalize (c9 H2 jo (.lst []))=H3 at s23 h3j ⊢;have h3d:=s23 d _ h2d
   have hkeys:(o8 es).map (·.1)=(es.map fun e=>(e.1:Int)).map Sum.inl:=by unfold o8;rw[dw5,dw5];rfl
   refine ⟨_,rfl,d,o8 es,es.map fun e=>(e.1:Int),rfl,h3d,hkeys,by rw[ds1];omega,fun ms so pm srt hso=> ?_⟩;have s34:e8 H3 (c9 H3 so (.lst (ms.map V.int))):=e8.upd_new hso;have h4s:(c9 H3 so (.lst (ms.map V.int))) so=some (.lst (ms.map V.int)):=c8;generalize (c9 H3 so (.lst (ms.map V.int)))=H4 at s34 h4s ⊢;have h4j:=s34 jo _ h3j;have s24:=s23.trans s34;have s04:=s02.trans s24;have hjo0:H jo=none:=s02.free hjo
   have mem_ms:∀z∈ms,∃e∈es,z=(e.1:Int):=fun z hz=>by
     obtain ⟨e,he,rfl⟩:=dt0.mp (pm.mem_iff.mp hz);exact ⟨e,he,rfl⟩
   have in_ms:∀r∈rs,((r.length:Nat):Int)∈ms:=fun r hr'=>by
     obtain ⟨e,he,hl⟩:=dt0.mp (bl.all r hr');exact pm.mem_iff.mpr (dt0.mpr ⟨e,he,by rw[hl]⟩)
   have nso:so≠jo:=fun z=>by rw[z,h3j] at hso;cases hso
   refine ⟨so,rfl,⟨_,i5.of h4s⟩,w4 (K:=K) (a:=so) (xs:=ms.map V.int) (fun i σ H5=>∃(js:List Addr) (qs:List (List Int)) (Rss:List (List (List Int))) (v4 v5 v6 v7 v8:Option V),σ=[some (.ref a),some (.int (m:Int)),some (.ref d),some (.ref jo),v4,v5,v6,v7,v8]/\H5 jo=some (.lst (js.map V.ref))/\m9 H5 js qs/\jo∉js/\js.length<=40*i/\JL m rs qs Rss/\Rss.flatten=((ms.take i).map fun z=>w9 rs z.toNat).flatten/\(∀z∈ms.take i,∀e,M7 z.toNat m e->e∣l7 rs z.toNat)/\(∀c o,H4 c=some o->c≠jo->H5 c=some o))
     ⟨[],[],[],none,none,none,none,none,rfl,h4j,⟨rfl,fun j a r h=>by simp at h⟩,by simp,du3 _,trivial,rfl,fun z hz=>by simp at hz,fun c o h _=>h⟩ (fun i σ H5 _ zz=>by obtain ⟨_,_,_,_,_,_,_,_,_,_,_,_,_,_,_,_,k⟩:=zz;exact i5.of (k so _ h4s nso)) ?_ ?_⟩
   · rintro i y σ H5 hi ⟨js,qs,Rss,v4,v5,v6,v7,v8,rfl,h5j,rowsJ,njj,ljs,jl,hfl,hdv,k5⟩;obtain ⟨z,hz,rfl⟩:=C9 hi;obtain ⟨e,he,rfl⟩:=mem_ms z (dt2 hz);have hil:i < ms.length:=(ds3.mp hz).1
     have lms:ms.length=es.length:=by rw[pm.length_eq,ds1]
     obtain ⟨cs,hcs,rcs⟩:=bl.row e he;have h5d:=k5 d _ (s34 d _ h3d) ndj;have nej:e.2≠jo:=g6 hcs hjo;have h5c:=k5 e.2 _ (s24 e.2 _ hcs) nej;obtain ⟨r0,hr0,lr0⟩:=bl.key e.1 (dt0.mpr ⟨e,he,rfl⟩)
     have le:1<=e.1/\e.1<=40:=by
       obtain ⟨y,L,hy,pr,er,_⟩:=up.ring r0 hr0
       have b:=I0 tp hy (m:=L) fun i i0 i1=>pr.least i i0 i1
       have:=pr.pos;rw[er,n9] at lr0;omega
     have lcs:cs.length=l7 rs e.1:=by rw[rcs.1,Q4]
     have hfil:∀r∈w9 rs e.1,r.length=e.1/\r∈rs:=fun r hr'=>by
       obtain ⟨h1,h2⟩:=dx8.mp hr';exact ⟨of_decide_eq_true h2,h1⟩
     have c1':1<=l7 rs e.1:=by
       rw[<-Q4];exact List.length_pos_of_mem (dx8.mpr ⟨hr0,decide_eq_true lr0⟩)
     have ccl:l7 rs e.1*e.1<=40:=by
       have h1:=(ad0 (l:=e.1) (by omega) (Rs:=w9 rs e.1) fun r hr'=>(hfil r hr').1).1;rw[Q4] at h1;have h2:(w9 rs e.1).flatten.length<=rs.flatten.length:=aj1 _ rs;omega
     have c40:l7 rs e.1<=40:=dt6 (dw6 _ (by omega)) ccl;refine ⟨_,rfl,_,rfl,d,.ref e.2,rfl,.inl ⟨o8 es,Sum.inl (e.1:Int),.inl h5d,rfl,(bb1 bl.nk he).symm⟩,?_⟩;refine ⟨_,rfl,e.2,_,rfl,.inl (i5.of h5c),?_⟩;rw[ds1,lcs];obtain ⟨c,hc⟩:∃c,c=l7 rs e.1:=⟨_,rfl⟩;rw[<-hc] at c1' ccl c40 lcs ⊢;refine ⟨_,rfl,_,rfl,e.1,m,rfl,by omega,by omega,by omega,m2,fun dd hlr=> ?_⟩;have ddp:0 < dd:=hlr.pos (by omega);refine ⟨_,rfl,_,rfl,_,_,rfl,rfl,(by show (0:Int) < (dd:Int);omega),rfl,_,rfl,?_⟩
     by_cases hdvd:dd∣c
     · have e0:((c:Int)%(dd:Int))=0:=by
         rw[<-ec9,eh1 hdvd];rfl
       refine aq8 (congrArg V.int e0) ?_;obtain ⟨u,hu'⟩:=hdvd
       have u1:1<=u:=by
         rcases eb1 u with y|y
         · rw[y,ee9] at hu';omega
         · exact y
       have ddc:dd<=c:=ef5 (by omega) ⟨u,hu'⟩;have uc:u<=c:=ef5 (by omega) ⟨dd,by rw[hu',dy8]⟩
       have en:(c - 1)/dd+1=u:=by
         have:c - 1=(u - 1)*dd+(dd - 1):=by
           have:u*dd=(u - 1)*dd+dd:=by rw[<-ed5];congr 1;omega
           rw[hu',dy8];omega
         rw[this,dy8,en8 ddp,en0 (by omega)];omega
       obtain ⟨k,hk⟩:=hlr.parts
       have cop:du0 e.1 k=1:=by
         have:=hlr.rest;rw[hk,dy9 k ddp] at this;exact this
       refine ⟨_,rfl,_,rfl,c,dd,rfl,by omega,by omega,by omega,by omega,?_⟩;rw[en]
       refine ce2 (lo:=0) (st:=(dd:Int)) (n:=u) (fun j σ H6=>∃(js':List Addr) (qs':List (List Int)) (Rss':List (List (List Int))) (v8:Option V),σ=[some (.ref a),some (.int (m:Int)),some (.ref d),some (.ref jo),some (.int (e.1:Int)),some (.ref e.2),some (.int (c:Int)),some (.int (dd:Int)),v8]/\H6 jo=some (.lst (js'.map V.ref))/\m9 H6 js' qs'/\jo∉js'/\js'.length=js.length+j/\JL m rs qs' Rss'/\Rss'.flatten=Rss.flatten++(w9 rs e.1).take (j*dd)/\(∀c o,H4 c=some o->c≠jo->H6 c=some o))
         ⟨js,qs,Rss,v8,rfl,h5j,rowsJ,njj,rfl,jl,by rw[ed7,eb9,du8],k5⟩ ?_ ?_
       · rintro j σ H6 hj ⟨js',qs',Rss',v8,rfl,h6j,rowsJ',njj',ljs',jl',hfl',k6⟩;have h6c:=k6 e.2 _ (s24 e.2 _ hcs) nej
         have jle:j*dd+dd<=c:=by
           calc j*dd+dd=(j+1)*dd:=by rw[ed5]
             _<=u*dd:=dz5 dd hj
             _=c:=by rw[hu',dy8]
         refine ⟨_,rfl,.inl ⟨rfl,_,i5.of h6j⟩,_,rfl,_,rfl,_,rfl,_,rfl,_,rfl,_,_,rfl,rfl,_,rfl,e.2,_,rfl,i5.of h6c,fun sl hsl=> ?_⟩
         have ecut:Y7 (cs.map V.ref) (some ((0:Int)+(j:Int)*(dd:Int))) (some ((0:Int)+(j:Int)*(dd:Int)+(dd:Int)))=((cs.drop (j*dd)).take dd).map V.ref:=by
           have a1:(0:Int)+(j:Int)*(dd:Int)=((j*dd:Nat):Int):=by rw[Int.zero_add,dy6]
           have a2:((j*dd:Nat):Int)+(dd:Int)=((j*dd+dd:Nat):Int):=by omega
           rw[a1,a2,da1 _ _ _ (by rw[ds1,lcs];omega),ds1,lcs,em9,eo6]
           congr 1
           omega
         dsimp only
         rw[ecut];have s67:e8 H6 (c9 H6 sl (.lst (((cs.drop (j*dd)).take dd).map V.ref))):=e8.upd_new hsl;have h7s:(c9 H6 sl (.lst (((cs.drop (j*dd)).take dd).map V.ref))) sl=some (.lst (((cs.drop (j*dd)).take dd).map V.ref)):=c8;generalize (c9 H6 sl (.lst (((cs.drop (j*dd)).take dd).map V.ref)))=H7 at s67 h7s ⊢
         have s17:∀c o,H1 c=some o->H7 c=some o:=fun c o h1=>s67 c o (k6 c o (s24 c o (s12 c o h1)) (g6 (s12 c o h1) hjo))
         have rB:m9 H7 ((cs.drop (j*dd)).take dd) (((w9 rs e.1).drop (j*dd)).take dd):=cf2 (t9 rcs fun c _ o ho=>s17 c o ho) _ _
         have lB:(((w9 rs e.1).drop (j*dd)).take dd).length=dd:=by
           rw[du1,dx1,Q4,<-hc];omega
         have mB:∀r∈((w9 rs e.1).drop (j*dd)).take dd,r∈w9 rs e.1:=fun r hr'=>ec3 (dy5 hr')
         obtain ⟨Bk,hBk⟩:∃Bk,Bk=((w9 rs e.1).drop (j*dd)).take dd:=⟨_,rfl⟩;rw[<-hBk] at rB lB mB;refine ⟨_,rfl,sl,_,Bk,e.1,k,by rw[lB,<-hk];rfl,h7s,rB,by omega,fun r hr'=>(hfil r (mB r hr')).1,by omega,?_,cop,fun o J H8 ho s78 h8o hji=> ?_⟩
         · rw[lB];exact dt6 (dz5 _ ddc) ccl
         have h8j:=s78 jo _ (s67 jo _ h6j)
         have noj:o≠jo:=fun z=>by rw[z,s67 jo _ h6j] at ho;cases ho
         refine ⟨jo,_,_,rfl,rfl,h8j,(by rw[ds1,sizeLine_eq];omega),?_⟩;have hJO:JO m rs J Bk:=⟨e.1,k,by omega,by rw[lB,<-hk],cop,fun r hr'=>(hfil r (mB r hr')).1,by omega,hji,fun r hr'=>(hfil r (mB r hr')).2,by rw[lB];exact hlr,j,by rw[lB];exact hBk⟩;refine ⟨js'++[o],qs'++[J],Rss'++[Bk],_,rfl,by rw[c8,dt1];rfl,?_,?_,by rw[ds8,ljs'];rfl,ca7 jl' hJO,?_,fun c o' hco hcj=> ?_⟩
         · refine K7 (t9 rowsJ' fun c hcm o' hco=> ?_) ?_
           · have:c≠jo:=fun z=>njj' (by rw[<-z];exact hcm)
             rw[g8 this];exact s78 c o' (s67 c o' hco)
           · rw[g8 noj];exact h8o
         · intro hm'
           rcases dt4.mp hm' with y|y
           · exact njj' y
           · have:jo=o:=by simpa using y
             exact noj this.symm
         · rw[dx0,dt9,List.flatten_nil,du8,hfl',hBk,du2,ed5,List.take_add]
         · rw[g8 hcj];exact s78 c o' (s67 c o' (k6 c o' hco hcj))
       · rintro σ H6 ⟨js',qs',Rss',v8,rfl,h6j,rowsJ',njj',ljs',jl',hfl',k6⟩;refine ⟨js',qs',Rss',_,_,_,_,_,rfl,h6j,rowsJ',njj',?_,jl',?_,fun z hz' e' he'=> ?_,k6⟩
         · rw[ljs',em6];omega
         · have efil:(w9 rs e.1).take (u*dd)=w9 rs e.1:=eb4 (by rw[Q4,<-hc,hu',dy8];exact ds4 _);rw[hfl',hfl,i7 hz,dt1,dx0,efil];show _=_++([w9 rs ((e.1:Int)).toNat]).flatten;rw[dx5,dt9,List.flatten_nil,du8]
         · rw[i7 hz] at hz'
           rcases dt4.mp hz' with y|y
           · exact hdv z y e' he'
           · have:z=(e.1:Int):=by simpa using y
             subst this;rw[dx5] at he' ⊢;rw[he'.uniq hlr,<-hc];exact ⟨u,hu'⟩
     · have e0:¬V.int ((c:Int)%(dd:Int))=V.int 0:=fun z=>hdvd (eb5 (by have:=V.int.inj z;rw[<-ec9] at this;omega))
       rw[decide_eq_false e0];refine ac6 ?_;refine ⟨_,rfl,_,rfl,_,rfl,(by show 4<=sizeLine;decide),fun t ht=> ?_⟩
       refine q2 t e.1 c dd _ (fun b o hb=> ?_) c8 (by rw[hc,ers]) c1' hlr hdvd fun r hr' hlt e' he'=> ?_
       · have:=k5 b o (s04 b o hb) (g6 hb hjo0);rw[g8 (g6 this ht)];exact this
       · rw[<-ers] at hr' ⊢;have hin:=in_ms r hr';obtain ⟨jj,hjj⟩:=dv7.mp hin;have hjl:=(ds3.mp hjj).1
         have:jj < i:=by
           rcases ej3 jj i with y|y
           · exact y
           · exfalso;have e1:=(ds3.mp hjj).2;have e2:=(ds3.mp hz).2
             rcases ej3 i jj with w|w
             · have:=dv6.mp srt i jj hil hjl w;rw[e1,e2] at this;omega
             · have:jj=i:=by omega
               subst this;rw[e1] at e2;omega
         have hm':((r.length:Nat):Int)∈ms.take i:=dt2 (i:=jj) (by rw[dz8 this];exact hjj);have:=hdv _ hm' e' (by rw[dx5];exact he');rw[dx5] at this;exact this
   · rintro σ H5 ⟨js,qs,Rss,v4,v5,v6,v7,v8,rfl,h5j,rowsJ,njj,ljs,jl,hfl,hdv,k5⟩;rw[ds1,du7] at hfl
     have hfl2:Rss.flatten=((ms.map el2).map (w9 rs)).flatten:=by rw[hfl,dw5];rfl
     have pk:(ms.map el2).Perm (es.map (·.1)):=by
       have:=pm.map el2;rw[dw5] at this;exact this
     have pR:Rss.flatten.Perm rs:=by
       rw[hfl2]
       refine bj4 (pk.nodup_iff.mpr bl.nk) fun r hr'=> ?_
       exact pk.mem_iff.mpr (bl.all r hr')
     have pq:qs.flatten.Perm (n6 0 p.length):=((ca8 jl).trans pR.flatten).trans (ai3 tp up);obtain ⟨tq,lq⟩:=at5 pq;refine ⟨_,rfl,jo,js,qs,rfl,h5j,rowsJ,fun J hJ=> ?_,tq,by omega,fun o r H6 ho s56 h6o lr on=> ?_⟩
     · obtain ⟨Rs,_,hjo'⟩:=be6 jl hJ;exact cx5 hjo'
     refine ⟨(by show 2<=sizeLine;decide),fun t ht=> ?_⟩
     have hq:∀J∈qs,G3 r J:=fun J hJ=>by
       obtain ⟨Rs,_,hjo'⟩:=be6 jl hJ;refine ⟨cx5 hjo',bj5 tq.nd hJ,fun x hx=>tq.lo x (du6.mpr ⟨J,hJ,hx⟩),on J hJ⟩
     have hx:∀x,In p x->∃J∈qs,ba2 p m J x:=fun x hxi=>by
       have hxf:x∈rs.flatten:=(ai3 tp up).mem_iff.mpr (A4.mpr hxi);obtain ⟨r0,hr0,hxr⟩:=du6.mp hxf;obtain ⟨Rs,hRs,hrR⟩:=du6.mp (pR.mem_iff.mpr hr0);obtain ⟨J,hJ,l,k,l0,hm,c,hr',d1,hj,_,_⟩:=cf1 jl hRs;obtain ⟨y,L,hy,pr,er,_⟩:=up.ring r0 hr0
       have hL:L=l:=by
         have:=hr' r0 hrR;rw[er,n9] at this;exact this
       subst hL;obtain ⟨aa,haa⟩:=dv7.mp hrR;rw[er] at hxr;obtain ⟨bb,hbb,rfl⟩:=B9.mp hxr;exact ⟨J,hJ,L,k,Rs,aa,bb,y,l0,hm,c,hr',hj,(ds3.mp haa).1,hbb,hy,pr,by rw[ds7,haa];exact er,rfl⟩
     obtain ⟨tr,pw⟩:=bz1 tp (by rw[lr,lq]) hq hx
     have hro:bq0 p m r:=⟨by rw[lr,lq],fun r0 hr0=>by
       rw[<-ers] at hr0 ⊢;obtain ⟨Rs,hRs,hrR⟩:=du6.mp (pR.mem_iff.mpr hr0);obtain ⟨J,hJ,jo'⟩:=cf1 jl hRs
       exact ⟨J,Rs,jo',hrR,hq J hJ⟩⟩
     have h05:∀b o,H b=some o->H5 b=some o:=fun b o hb=>k5 b o (s04 b o hb) (g6 hb hjo0)
     have ho0:H o=none:=by
       cases hh:H o with
       |none=>rfl
       |some z=>have:=h05 o z hh;rw[ho] at this;cases this
     have nto:o≠t:=g6 h6o ht;refine q1 t o r _ (fun b u hb=> ?_) c8 ho0 (by rw[g8 nto];exact h6o) tr (by rw[lr,lq]) pw hro;have:=s56 b u (h05 b u hb);rw[g8 (g6 this ht)];exact this
end
end My
namespace My
open PySem L2 Mth
section
variable {P:Program} {w:World} {K:PySem.W.Frag} {mg:Str->Option Value} {base:Heap}
noncomputable def aw1 (p:List Int)(l:Nat):Nat:=l7 (j9 p p.length) l
def cn3 (H:Hp)(t:Addr)(p:List Int)(m:Nat):Prop:=
 (∃(o:Addr) (r:List Int),H t=some (.tup [.str "root",.ref o])/\H o=some (.lst (r.map V.int))/\o6 r/\r.length=p.length/\B7 r (m:Int) p/\bq0 p m r)\/
 (∃l d:Nat,H t=some (.tup [.str "bars",.int (l:Int),.int ((aw1 p l:Nat):Int),.int (d:Int)])/\dg8 (aw1 p) m l d)
def ca9:Sp:=fun vs H Q _=>∃(a:Addr) (p:List Int) (m:Nat),vs=[.ref a,.int (m:Int)]/\R8 H a p/\1<=m/\m<=1000000000000000000000000000000/\∀(t:Addr) (H':Hp),e8 H H'->cn3 H' t p m->(∀x o,H' t=some (.tup [x,.ref o])->H o=none)->Q (.ref t) H'
theorem ct6 {k:Nat}(c:j7 P w K mg base "root_told" k ["p","m"] bs6):j7 P w K mg base "root_told" k ["p","m"] ca9:=by
 refine c.imp (fun vs H Q E h=> ?_) (fun vs H Q E h=> ?_)
 · obtain ⟨a,p,m,rfl,ta,m1,m2,q⟩:=h;refine ⟨a,p,m,rfl,ta,m1,m2,fun t o r H' s ht ho0 ho tr lr pw ro=>q t H' s (.inl ⟨o,r,ht,ho,tr,lr,pw,ro⟩) (fun x o' h'=> ?_),fun t l c d H' s ht hc c1 lr nd less=>q t H' s (.inr ⟨l,d,by rw[ht,hc];rfl,⟨by rw[hc] at c1;exact c1,lr,by rw[hc] at nd;exact nd,fun k k1 kl e he=> ?_⟩⟩) (fun x o' h'=> ?_)⟩
   · rw[ht] at h'
     injection h' with h'
     injection h' with h'
     injection h' with _ h'
     injection h' with h' _
     injection h' with h'
     rw[<-h'];exact ho0
   · obtain ⟨r0,hr0,e0⟩:=ar1 (rs:=j9 p p.length) (l:=k) (by unfold aw1 at k1;omega);have:=less r0 hr0 (by omega) e (by rw[e0];exact he);rw[e0] at this;exact this
   · rw[ht] at h'
     injection h' with h'
     injection h' with h'
     have:=congrArg ef7 h';simp at this
 · obtain ⟨a,p,m,rfl,_⟩:=h;rfl
end
end My
namespace My
open PySem L2 Mth
noncomputable def cf3 (p:List Int):List Int:=(dv4 p.length).map fun (i:Nat)=>(G0 p (i:Int):Int)
noncomputable def af5 (p:List Int)(l:Nat):Nat:=J3 l (((cf3 p).countP fun i=>decide (i=(l:Int)))/l)
end My
namespace My
open PySem L2 Mth
section
variable {P:Program} {w:World} {K:PySem.W.Frag} {mg:Str->Option Value} {base:Heap}
def cf4:Sp:=fun vs H Q _=>∃(a:Addr) (p:List Int),vs=[.ref a]/\R8 H a p/\∀(H':Hp),e8 H H'->Q (.int ((j8 (af5 p) ((dv4 p.length).map (· +1)):Nat):Int)) H'
theorem E2:l8 ["p","by_length","many","length","free"] ["p"] (j5 V0):=by rfl'
theorem aw2 {f:Addr}{fd:FuncData}(F:x6 K "how_many_past" "how_many_past" V0 f fd)(B:Bl mg)(zxz:j7 P w K mg base "must_be_turn" 3 ["thing"] ao5)(zzx:j7 P w K mg base "sort_by_length" 1 ["rings"] ab5)(zyx:j7 P w K mg base "walk_rings" 2 ["p"] Q7):o7 P w K mg base x5 4 f fd ["p"] cf4:=by
 refine F.ok E2 (fun vs H Q E h=> ?_) (fun cdv A outer s H vs Q E hr h=> ?_)
 · obtain ⟨a,p,rfl,⟨ha,tp,lp⟩,q⟩:=h;rfl
 · obtain ⟨a,p,rfl,⟨ha,tp,lp⟩,q⟩:=h;have zry:l6 3 _:=hr.mono (by decide);have zwy:l6 1 _:=hr.mono (by decide);have zux:l6 2 _:=hr.mono (by decide);have hu:=X1 hr;refine ⟨_,@c7 _ _ _ _ _ (@p7 _ _ _ _ (@i4 _ _ _ _ _ _ _ _ _ _ zxz zry (@c5 _ _ _ _ _ (pv 0) (@c6 _) (by rfl)) (by rfl) (by decide) (by rfl) (by rfl)) (by rfl)) (@c7 _ _ _ _ _ (@i6 _ _ (1) _ _ _ _ E2.nd rfl (Or.inl rfl) (@i4 _ _ _ _ _ _ _ _ _ _ zzx zwy (@c5 _ _ _ _ _ (@i4 _ _ _ _ _ _ _ _ _ _ zyx zux (@c5 _ _ _ _ _ (pv 0) (@c6 _) (by rfl)) (by rfl) (by decide) (by rfl) (by rfl)) (@c6 _) (by rfl)) (by rfl) (by decide) (by rfl) (by rfl)) (by rfl) (by trivial)) (@c7 _ _ _ _ _ (@i6 _ _ (2) _ _ _ _ E2.nd rfl (Or.inl rfl) (@g7 _ _ _ _) (by rfl) (by trivial)) (@c7 _ _ _ _ _ (@l9 _ _ _ _ _ _ _ _ PassesOwn.never rfl (@bd6 _ _ _ _ (pv 1)) (@i9 _ _ (3) _ E2.nd rfl (Or.inl rfl) (by trivial)) (@e7 _ _ _ (@l9 _ _ _ _ _ _ _ _ PassesOwn.never rfl (@K5 _ _ _ _ _ _ _ (by rfl) B.range (@c5 _ _ _ _ _ (@g7 _ _ _ _) (@c5 _ _ _ _ _ (@j6 _ _ _ _ _ _ _ _ x3 (@y7 _ _ _ _ _ B.len (@c5 _ _ _ _ _ (@ah9 _ _ _ _ _ _ hu (pv 1) (pv 3) (fun _ _=>rfl)) (@c6 _) (by rfl)) (by rfl) (by rfl)) (@g7 _ _ _ _)) (@c6 _) (by rfl)) (by rfl)) (by rfl) (by rfl)) (@i9 _ _ (4) _ E2.nd rfl (Or.inl rfl) (by trivial)) (@e7 _ _ _ (@i6 _ _ (2) _ _ _ _ E2.nd rfl (Or.inl rfl) (@j6 _ _ _ _ _ _ _ _ C4 (@j6 _ _ _ _ _ _ _ _ C4 (pv 2) (pv 3)) (pv 4)) (by rfl) (by trivial))) (by intro _;rfl))) (by intro _;rfl)) (@e7 _ _ _ (@l5 _ _ _ _ (pv 2)))))),?_⟩;refine ⟨_,rfl,a,p,rfl,⟨ha,tp,lp⟩,fun H1 s1=> ?_⟩;refine ⟨_,rfl,a,p,rfl,⟨s1 a _ ha,tp,lp⟩,fun l as rs H2 hl s12 h2l rows up fa nda nla=> ?_⟩;have cl:=ad7 up;have fl:=X9 tp up;refine ⟨l,as,rs,rfl,h2l,rows,by omega,fun d es H3 hd s23 h3d bl les fre=> ?_⟩;have s03:=(s1.trans s12).trans s23;have hd0:H d=none:=(s1.trans s12).free hd;refine ⟨_,rfl,d,o8 es,rfl,h3d,fun o=> ?_⟩;have s4:e8 H (c9 H3 d (.frz o (.dK (o8 es)))):=s03.upd_r hd0;have h4d:(c9 H3 d (.frz o (.dK (o8 es)))) d=some (.frz o (.dK (o8 es))):=c8
   have kp:∀c,c≠d->(c9 H3 d (.frz o (.dK (o8 es)))) c=H3 c:=fun c hc=>g8 hc
   generalize (c9 H3 d (.frz o (.dK (o8 es))))=H4 at s4 h4d kp ⊢
   have lkv:(o8 es).length=es.length:=by unfold o8;rw[ds1]
   refine ak1 (fun i σ H5=>∃(v3 v4:Option V),σ=[some (.ref a),some (.ref d),some (.int ((j8 (fun l=>J3 l (l7 rs l)) ((es.take i).map (·.1)):Nat):Int)),v3,v4]/\H5=H4)
     ⟨none,none,rfl,rfl⟩ (fun i σ H5 _ zz=>by obtain ⟨_,_,_,e⟩:=zz;rw[e];exact h4d) ?_ ?_
   · rintro i k v σ H5 hi ⟨v3,v4,rfl,rfl⟩;unfold o8 at hi;rw[ds9] at hi
     cases hE:es[i]? with
     |none=>rw[hE] at hi;cases hi
     |some e=>
      rw[hE] at hi;cases hi;have he:=dt2 hE;obtain ⟨cs,hcs,rcs⟩:=bl.row e he
      obtain ⟨xs,hxs,lxs⟩:∃xs:List V,H3 e.2=some (.lst xs)/\xs.length=l7 rs e.1:=⟨_,hcs,by
        rw[ds1,rcs.1];unfold w9 l7
        exact (eh2 ..).symm⟩
      have h5x:H5 e.2=some (.lst xs):=by rw[kp _ (bl.nd e he)];exact hxs
      obtain ⟨r,hr',lr⟩:=bl.key e.1 (dt0.mpr ⟨e,he,rfl⟩)
      have le40:e.1<=40:=by
        obtain ⟨y,L,hy,pr,er,_⟩:=up.ring r hr'
        have b:=I0 tp hy (m:=L) fun i i0 i1=>pr.least i i0 i1
        rw[er,n9] at lr;omega
      have lx40:xs.length<=40:=by
        have:l7 rs e.1<=rs.length:=eh4;omega
      obtain ⟨F0,hF0⟩:∃F0,F0=j8 (fun l=>J3 l (l7 rs l)) ((es.take i).map (·.1)):=⟨_,rfl⟩;rw[<-hF0];refine ⟨_,rfl,_,rfl,d,.ref e.2,rfl,.inl ⟨o8 es,Sum.inl (e.1:Int),.inr ⟨o,h4d⟩,rfl,(bb1 bl.nk he).symm⟩,e.2,xs,rfl,.inl (i5.of h5x),_,_,rfl,rfl,_,_,rfl,⟨by decide,by decide,by omega,by omega⟩,?_⟩
      refine E8 (lo:=1) (n:=(((xs.length:Nat):Int)+1 - 1).toNat) (fun j σ H6=>∃(v4':Option V),σ=[some (.ref a),some (.ref d),some (.int ((F0*J3 e.1 j:Nat):Int)),some (.int (e.1:Int)),v4']/\H6=H5)
        ⟨v4,by rw[show J3 e.1 0=1 from rfl,ed6];rfl,rfl⟩ ?_ ?_
      · rintro j σ H6 hj ⟨v4',rfl,rfl⟩;refine ⟨_,rfl,_,rfl,_,_,rfl,rfl,.inr ⟨by omega,by omega⟩,_,rfl,_,_,rfl,rfl,.inr ⟨by omega,by omega⟩,?_⟩;refine ⟨some (.int ((1:Int)+(j:Int))),?_,rfl⟩
        have ee:((F0*J3 e.1 j:Nat):Int)*((e.1:Nat):Int)*((1:Int)+(j:Int))=((F0*J3 e.1 (j+1):Nat):Int):=by
          show _=((F0*(J3 e.1 j*e.1*(j+1)):Nat):Int);rw[show (1:Int)+(j:Int)=((j+1:Nat):Int) by omega,<-dy6,<-dy6,dx3,dx3,dx3]
        rw[<-ee]
        first|done|rfl
      · rintro σ H6 ⟨v4',rfl,rfl⟩;refine ⟨some (.int (e.1:Int)),v4',?_,rfl⟩;rw[i7 hE,dt1,show ([e].map (·.1):List Nat)=[e.1] from rfl,ak2,<-hF0,show (((xs.length:Nat):Int)+1 - 1).toNat=xs.length by omega,lxs]
   · rintro σ H5 ⟨v3,v4,rfl,rfl⟩;rw[lkv,du7]
     have hg:∀l,af5 p (l+1)=J3 (l+1) (l7 rs (l+1)):=fun l=>by
       unfold af5 cf3;rw[af1 tp up (l+1),dy9 _ (by omega)]
     rw[cl4 tp up bl.nk bl.key bl.all hg];exact ⟨_,rfl,q _ s4⟩
end
end My
namespace My
open PySem L2 Mth
section
variable {P:Program} {w:World} {K:PySem.W.Frag} {mg:Str->Option Value} {base:Heap}
def n5:Nat->Nat->Nat->List (List Int)
 |0,_,_=>[[]]
 |d+1,n,m=>if n=0 then [[]] else (dv4 (min n m)).flatMap fun i=>(n5 d (n - (i+1)) (i+1)).map fun r=>((i:Int)+1)::r
theorem cf5 (d m:Nat):n5 d 0 m=[[]]:=by cases d<;>rfl
theorem aa8:∀d,d < 13->∀n,n < 13->∀m,m < 13->(n5 d n m).length<=77:=by decide+kernel
theorem bj6:∀(d n m:Nat) (r:List Int),r∈n5 d n m->r.length<=d
 |0,n,m,r,h=>by rw[dt3.mp (show r∈[[]] from h)];exact ds4 _
 |d+1,n,m,r,h=>by
  unfold n5 at h
  split at h
  · rw[dt3.mp h];exact du3 _
  · obtain ⟨i,_,hi⟩:=dx7.mp h;obtain ⟨q,hq,rfl⟩:=dt0.mp hi;have:=bj6 d _ _ q hq;rw[dv9];omega
def ab6 (d:Nat):Sp:=fun vs H Q _=>∃n m:Nat,vs=[.int (n:Int),.int (m:Int)]/\n<=d/\m<=12/\d<=12/\∀(l:Addr) (as:List Addr) (H':Hp),H l=none->e8 H H'->H' l=some (.lst (as.map V.ref))->m9 H' as (n5 d n m)->(∀b∈as,H b=none)->as.Nodup->l∉as->Q (.ref l) H'
theorem cb0 {H:Hp}{e l:Addr}(he:H e=none)(hl:(c9 H e (.lst [])) l=none):H l=none/\e8 H (c9 (c9 H e (.lst [])) l (.lst [V.ref e]))/\m9 (c9 (c9 H e (.lst [])) l (.lst [V.ref e])) [e] [[]]/\l∉[e]:=by
 have n:l≠e:=fun z=>by rw[z,c8] at hl;cases hl
 have hl0:H l=none:=by rw[g8 n] at hl;exact hl
 refine ⟨hl0,(e8.upd_new he).upd_r hl0,⟨rfl,fun j a r h1 h2=> ?_⟩,fun z=>n (dt3.mp z)⟩
 cases j with
 |zero=>
  cases h1;cases h2;rw[g8 n.symm,c8];rfl
 |succ j=>cases h1
def V4 (d n i:Nat):List (List Int):=(dv4 i).flatMap fun i=>(n5 d (n - (i+1)) (i+1)).map fun r=>((i:Int)+1)::r
theorem ah2 (d n i:Nat):V4 d n (i+1)=V4 d n i++(n5 d (n - (i+1)) (i+1)).map fun r=>((i:Int)+1)::r:=by
 unfold V4;rw[ef1,eb8,List.flatMap_singleton]
theorem cn4 (d n:Nat):∀{i j:Nat},i<=j->(V4 d n i).length<=(V4 d n j).length
 |i,j,h=>by
  induction j with
  |zero=>rw[Nat.le_zero.mp h];exact ds4 _
  |succ j ih=>
   rcases ei9 h with z|z
   · have:=ih (by omega);rw[ah2,ds8];omega
   · rw[z];exact ds4 _
theorem au2 (d n m:Nat)(h:n≠0):n5 (d+1) n m=V4 d n (min n m):=by
 unfold n5 V4;rw[if_neg h]
theorem C6:l8 ["n","most","kinds","first","rest"] ["n","most"] (j5 S3):=by rfl'
theorem be7 {f:Addr}{fd:FuncData}(F:x6 K "kinds_below" "kinds_below" S3 f fd)(B:Bl mg):o7 P w K mg base x5 1 f fd ["n","most"] (ab6 0):=by
 refine F.ok C6 (fun vs H Q E h=> ?_) (fun cdv A outer s H vs Q E hr h=> ?_)
 · obtain ⟨n,m,rfl,hn,hm,hd,q⟩:=h;rfl
 · obtain ⟨n,m,rfl,hn,hm,hd,q⟩:=h;refine ⟨_,@c7 _ _ _ _ _ (@y9 _ _ _ _ _ _ _ _ (@t6 _ _ _ _ _ _ _ _ U0 (pv 0) (@g7 _ _ _ _) (q5 _)) (@e7 _ _ _ (@l5 _ _ _ _ (@p8 _ _ _ _ (@c5 _ _ _ _ _ (@p8 _ _ _ _ (@c6 _)) (@c6 _) (by rfl))))) (@q0 _)) (@c7 _ _ _ _ _ (@i6 _ _ (2) _ _ _ _ C6.nd rfl (Or.inl rfl) (@p8 _ _ _ _ (@c6 _)) (by rfl) (by trivial)) (@c7 _ _ _ _ _ (@l9 _ _ _ _ _ _ _ _ PassesOwn.never rfl (@K5 _ _ _ _ _ _ _ (by rfl) B.range (@c5 _ _ _ _ _ (@g7 _ _ _ _) (@c5 _ _ _ _ _ (@j6 _ _ _ _ _ _ _ _ x3 (@bd5 _ _ _ _ _ _ rfl B.min (@c5 _ _ _ _ _ (pv 0) (@c5 _ _ _ _ _ (pv 1) (@c6 _) (by rfl)) (by rfl)) (by rfl) (by rfl) (by rfl)) (@g7 _ _ _ _)) (@c6 _) (by rfl)) (by rfl)) (by rfl) (by rfl)) (@i9 _ _ (3) _ C6.nd rfl (Or.inl rfl) (by trivial)) (@e7 _ _ _ (@l9 _ _ _ _ _ _ _ _ PassesOwn.never rfl (@t5 _ _ _ _ (@bq3 _ _)) (@i9 _ _ (4) _ C6.nd rfl (Or.inl rfl) (by trivial)) (@e7 _ _ _ (@p7 _ _ _ _ (@x8 _ _ _ _ _ _ _ (pv 2) (@c5 _ _ _ _ _ (@j6 _ _ _ _ _ _ _ _ ac3 (@p8 _ _ _ _ (@c5 _ _ _ _ _ (pv 3) (@c6 _) (by rfl))) (pv 4)) (@c6 _) (by rfl)) (by rfl) (by rfl) (by rfl) (by rfl) (by rfl)) (by rfl))) (by intro _;rfl))) (by intro _;rfl)) (@e7 _ _ _ (@l5 _ _ _ _ (pv 2))))),?_⟩
   obtain rfl:n=0:=by omega
   refine ⟨_,rfl,rfl,_,rfl,?_⟩;refine M6 (fun _=> ?_) (fun h=>absurd (decide_eq_true rfl) h);refine ⟨du3 _,fun e he=>⟨(show 1<=sizeLine by decide),fun l hl=> ?_⟩⟩;obtain ⟨a1,a2,a3,a4⟩:=cb0 he hl;exact q l [e] _ a1 a2 c8 a3 (fun b hb=>by rw[dt3.mp hb];exact he) (by simp) a4
theorem bb2 {d k:Nat}{f:Addr}{fd:FuncData}(F:x6 K "kinds_below" "kinds_below" S3 f fd)(B:Bl mg)(zt:j7 P w K mg base "kinds_below" (k+1) ["n","most"] (ab6 d)):o7 P w K mg base x5 (k+1+1) f fd ["n","most"] (ab6 (d+1)):=by
 refine F.ok C6 (fun vs H Q E h=> ?_) (fun cdv A outer s H vs Q E hr h=> ?_)
 · obtain ⟨n,m,rfl,hn,hm,hd,q⟩:=h;rfl
 · obtain ⟨n,m,rfl,hn,hm,hd,q⟩:=h;have zpy:l6 (k+1) _:=hr.mono (by omega);refine ⟨_,@c7 _ _ _ _ _ (@y9 _ _ _ _ _ _ _ _ (@t6 _ _ _ _ _ _ _ _ U0 (pv 0) (@g7 _ _ _ _) (q5 _)) (@e7 _ _ _ (@l5 _ _ _ _ (@p8 _ _ _ _ (@c5 _ _ _ _ _ (@p8 _ _ _ _ (@c6 _)) (@c6 _) (by rfl))))) (@q0 _)) (@c7 _ _ _ _ _ (@i6 _ _ (2) _ _ _ _ C6.nd rfl (Or.inl rfl) (@p8 _ _ _ _ (@c6 _)) (by rfl) (by trivial)) (@c7 _ _ _ _ _ (@l9 _ _ _ _ _ _ _ _ PassesOwn.never rfl (@K5 _ _ _ _ _ _ _ (by rfl) B.range (@c5 _ _ _ _ _ (@g7 _ _ _ _) (@c5 _ _ _ _ _ (@j6 _ _ _ _ _ _ _ _ x3 (@bd5 _ _ _ _ _ _ rfl B.min (@c5 _ _ _ _ _ (pv 0) (@c5 _ _ _ _ _ (pv 1) (@c6 _) (by rfl)) (by rfl)) (by rfl) (by rfl) (by rfl)) (@g7 _ _ _ _)) (@c6 _) (by rfl)) (by rfl)) (by rfl) (by rfl)) (@i9 _ _ (3) _ C6.nd rfl (Or.inl rfl) (by trivial)) (@e7 _ _ _ (@l9 _ _ _ _ _ _ _ _ PassesOwn.never rfl (@t5 _ _ _ _ (@i4 _ _ _ _ _ _ _ _ _ _ zt zpy (@c5 _ _ _ _ _ (@j6 _ _ _ _ _ _ _ _ ay1 (pv 0) (pv 3)) (@c5 _ _ _ _ _ (pv 3) (@c6 _) (by rfl)) (by rfl)) (by rfl) (by decide) (by rfl) (by rfl))) (@i9 _ _ (4) _ C6.nd rfl (Or.inl rfl) (by trivial)) (@e7 _ _ _ (@p7 _ _ _ _ (@x8 _ _ _ _ _ _ _ (pv 2) (@c5 _ _ _ _ _ (@j6 _ _ _ _ _ _ _ _ ac3 (@p8 _ _ _ _ (@c5 _ _ _ _ _ (pv 3) (@c6 _) (by rfl))) (pv 4)) (@c6 _) (by rfl)) (by rfl) (by rfl) (by rfl) (by rfl) (by rfl)) (by rfl))) (by intro _;rfl))) (by intro _;rfl)) (@e7 _ _ _ (@l5 _ _ _ _ (pv 2))))),?_⟩;refine ⟨_,rfl,rfl,_,rfl,?_⟩
   by_cases n0:n=0
   · subst n0;refine M6 (fun _=> ?_) (fun h=>absurd (decide_eq_true rfl) h);refine ⟨du3 _,fun e he=>⟨(show 1<=sizeLine by decide),fun l hl=> ?_⟩⟩;obtain ⟨a1,a2,a3,a4⟩:=cb0 he hl;rw[cf5] at q;exact q l [e] _ a1 a2 c8 a3 (fun b hb=>by rw[dt3.mp hb];exact he) (by simp) a4
   refine M6 (fun h=> ?_) (fun _=> ?_)
   · have h:=V.int.inj (of_decide_eq_true h);omega
   rw[au2 d n m n0] at q;refine ⟨du3 _,fun L hL=> ?_⟩;have s1:e8 H (c9 H L (.lst [])):=e8.upd_new hL;have h1L:(c9 H L (.lst [])) L=some (.lst (([]:List Addr).map V.ref)):=c8;generalize (c9 H L (.lst []))=H1 at s1 h1L ⊢
   have emin:(if (m:Int) < (n:Int) then (m:Int) else (n:Int))+1=((min n m:Nat):Int)+1:=by
     split<;>omega
   refine ⟨_,rfl,_,rfl,_,_,rfl,_,_,rfl,rfl,?_⟩;have many:=aa8 (d+1) (by omega) n (by omega) m (by omega);rw[au2 d n m n0] at many;refine ⟨1,((min n m:Nat):Int)+1,congrArg (fun z=>[V.int 1,V.int z]) emin,⟨by decide,by decide,by omega,by omega⟩,?_⟩
   have en:(((min n m:Nat):Int)+1 - 1).toNat=min n m:=by omega
   rw[en]
   refine E8 (lo:=1) (n:=min n m) (fun i σ H2=>∃(as:List Addr) (v3 v4:Option V),σ=[some (.int (n:Int)),some (.int (m:Int)),some (.ref L),v3,v4]/\H2 L=some (.lst (as.map V.ref))/\m9 H2 as (V4 d n i)/\e8 H H2/\(∀b∈as,H b=none)/\as.Nodup/\L∉as)
     ⟨[],none,none,rfl,h1L,⟨rfl,fun j b r h=>by cases h⟩,s1,(fun b hb=>by cases hb),dz9,(fun z=>by cases z)⟩ ?_ ?_
   · rintro i σ H2 hi ⟨as,v3,v4,rfl,h2L,rows,s2,fa,nda,nla⟩
     have e1:(n:Int) - (1+(i:Int))=((n - (i+1):Nat):Int):=by omega
     have e2:(1:Int)+(i:Int)=((i+1:Nat):Int):=by omega
     refine ⟨_,rfl,_,rfl,_,_,rfl,rfl,_,rfl,?_⟩;refine ⟨n - (i+1),i+1,(show [V.int _,V.int _]=_ by rw[e1,e2]),by omega,by omega,by omega,fun l bs H3 hl s3 h3l rows3 fb ndb nlb=> ?_⟩;have h3L:=s3 _ _ h2L;have nLl:L≠l:=g6 h2L hl;have rlen:=rows3.1;have tl:=cn4 d n (show i+1<=min n m by omega);rw[ah2,ds8,ds1] at tl
     refine ⟨l,rfl,⟨_,i5.of h3l⟩,w4 (K:=K) (a:=l) (xs:=bs.map V.ref) (fun j σ H4=>∃(cs:List Addr) (v4:Option V),σ=[some (.int (n:Int)),some (.int (m:Int)),some (.ref L),some (.int (1+(i:Int))),v4]/\H4 L=some (.lst (cs.map V.ref))/\m9 H4 cs (V4 d n i++((n5 d (n - (i+1)) (i+1)).take j).map fun r=>((i:Int)+1)::r)/\e8 H H4/\i8 L H3 H4/\(∀b∈cs,H b=none)/\cs.Nodup/\L∉cs)
       ⟨as,v4,rfl,h3L,by rw[eb9,ee7,du8];exact t9 rows fun b _ o e=>s3 b o e,s2.trans s3,i8.refl L H3,fa,nda,nla⟩ (fun j σ H4 _ zz=>by obtain ⟨_,_,_,_,_,_,k,_⟩:=zz;exact i5.of (k l _ h3l nLl.symm)) ?_ ?_⟩
     · rintro j x σ H4 hj ⟨cs,v4,rfl,h4L,rows4,s4,k4,fc,ndc,nlc⟩;rw[ds9] at hj
       cases hB:bs[j]? with
       |none=>rw[hB] at hj;cases hj
       |some b=>
       rw[hB] at hj;cases hj
       have hjl:j < (n5 d (n - (i+1)) (i+1)).length:=by rw[<-rlen];exact (ds3.mp hB).1
       obtain ⟨r,hr'⟩:∃r,(n5 d (n - (i+1)) (i+1))[j]? =some r:=⟨_,ds2 hjl⟩;have h3b:=rows3.2 j b r hB hr';have rl:=bj6 d _ _ r (dt2 hr')
       have nbL:b≠L:=fun z=>by have:=fb b (dt2 hB);rw[z,h2L] at this;cases this
       have h4b:=k4 b _ h3b nbL;have clen:=rows4.1;rw[ds8,ds1,du1] at clen;refine ⟨_,rfl,.inl ⟨rfl,_,i5.of h4L⟩,_,rfl,(show 1<=sizeLine by decide),fun e he=> ?_⟩;have nLe:L≠e:=g6 h4L he;have nbe:b≠e:=g6 h4b he
       have h5b:(c9 H4 e (.lst [V.int (1+(i:Int))])) b=some (.lst (r.map V.int)):=by rw[g8 nbe];exact h4b
       have h5L:(c9 H4 e (.lst [V.int (1+(i:Int))])) L=some (.lst (cs.map V.ref)):=by rw[g8 nLe];exact h4L
       have h5e:(c9 H4 e (.lst [V.int (1+(i:Int))])) e=some (.lst [V.int (1+(i:Int))]):=c8;have s5:e8 H4 (c9 H4 e (.lst [V.int (1+(i:Int))])):=e8.upd_new he;generalize (c9 H4 e (.lst [V.int (1+(i:Int))]))=H5 at h5b h5L h5e s5 ⊢;refine ⟨_,rfl,e,b,_,_,rfl,rfl,h5e,h5b,dz1 (o9 (by simp only[dv9,ef0,ds1];omega)),fun p hp=> ?_⟩
       have er:[V.int (1+(i:Int))]++r.map V.int=(((i:Int)+1)::r).map V.int:=by rw[Int.add_comm 1 (i:Int)];rfl
       rw[er];have nLp:L≠p:=g6 h5L hp
       have h6L:(c9 H5 p (.lst ((((i:Int)+1)::r).map V.int))) L=some (.lst (cs.map V.ref)):=by rw[g8 nLp];exact h5L
       refine ⟨L,_,_,rfl,rfl,h6L,o9 (by rw[ds1];omega),?_⟩
       have es:cs.map V.ref++[V.ref p]=(cs++[p]).map V.ref:=by rw[dt1];rfl
       rw[es];have hp4:H4 p=none:=s5.free hp;have h7L:(c9 (c9 H5 p (.lst ((((i:Int)+1)::r).map V.int))) L (.lst ((cs++[p]).map V.ref))) L=some (.lst ((cs++[p]).map V.ref)):=c8
       have h7p:(c9 (c9 H5 p (.lst ((((i:Int)+1)::r).map V.int))) L (.lst ((cs++[p]).map V.ref))) p=some (.lst ((((i:Int)+1)::r).map V.int)):=by rw[g8 nLp.symm,c8]
       have k7:i8 L H4 (c9 (c9 H5 p (.lst ((((i:Int)+1)::r).map V.int))) L (.lst ((cs++[p]).map V.ref))):=fun c o hc hn=>by rw[g8 hn,g8 (g6 (s5 c o hc) hp)];exact s5 c o hc
       generalize (c9 (c9 H5 p (.lst ((((i:Int)+1)::r).map V.int))) L (.lst ((cs++[p]).map V.ref)))=H7 at h7L h7p k7 ⊢;refine ⟨cs++[p],_,rfl,h7L,?_,s4.kb k7 hL,k4.trans k7,fun c hc=> ?_,?_,?_⟩
       · rw[i7 hr',dt1,<-du2];exact K7 (t9 rows4 fun c hc o e=>k7 c o e fun z=>nlc (z▸hc)) h7p
       · rcases dt4.mp hc with z|z
         · exact fc c z
         · rw[dt3.mp z];exact s4.free hp4
       · refine aq9 ndc fun z=> ?_
         obtain ⟨q',hq'⟩:=ad6 rows4 z;rw[hp4] at hq';cases hq'
       · intro z
         rcases dt4.mp z with z|z
         · exact nlc z
         · exact nLp (dt3.mp z)
     · rintro σ H4 ⟨cs,v4,rfl,h4L,rows4,s4,k4,fc,ndc,nlc⟩;rw[ds1,rlen,du7,<-ah2] at rows4;exact ⟨cs,_,_,rfl,h4L,rows4,s4,fc,ndc,nlc⟩
   · rintro σ H2 ⟨as,v3,v4,rfl,h2L,rows,s2,fa,nda,nla⟩;exact ⟨_,rfl,q L as H2 hL s2 h2L rows fa nda nla⟩
end
end My
namespace My
open PySem L2 Mth
section
variable {P:Program} {w:World} {K:PySem.W.Frag} {mg:Str->Option Value} {base:Heap}
def af6:Sp:=fun vs H Q _=>∃n:Nat,vs=[.int (n:Int)]/\n<=12/\Q .non H
theorem ap0:l8 ["n"] ["n"] (j5 R3):=by rfl'
theorem ap1 {f:Addr}{fd:FuncData}(F:x6 K "must_be_counted" "must_be_counted" R3 f fd)(zpx:∃t,mg "MOST_COUNTED"=some (.int 12 t))(zuz:j7 P w K mg base "is_whole" 1 ["thing"] (ab3 K)):o7 P w K mg base x5 2 f fd ["n"] af6:=by
 refine F.ok ap0 (fun vs H Q E h=> ?_) (fun cdv A outer s H vs Q E hr h=> ?_)
 · obtain ⟨n,rfl,hn,q⟩:=h;rfl
 · obtain ⟨n,rfl,hn,q⟩:=h;obtain ⟨_,zhz⟩:=zpx;have zmx:l6 1 _:=hr.mono (by decide);refine ⟨_,@c7 _ _ _ _ _ (@y9 _ _ _ _ _ _ _ _ (@aa1 _ _ _ _ _ _ _ (@K4 _ _ _ _ (@K3 _ _ _ (@i4 _ _ _ _ _ _ _ _ _ _ zuz zmx (@c5 _ _ _ _ _ (pv 0) (@c6 _) (by rfl)) (by rfl) (by decide) (by rfl) (by rfl)) (by intro _;rfl))) (@ac0 _ _ _ _ (@t6 _ _ _ _ _ _ _ _ ay2 (pv 0) (@g7 _ _ _ _) (q5 _)))).pt (@e7 _ _ _ (@O1 _ _)) (@q0 _)) (@e7 _ _ _ (@y9 _ _ _ _ _ _ _ _ (@t6 _ _ _ _ _ _ _ _ ay4 (pv 0) (@aq2 _ _ (.int 12) _ _ (by rfl) zhz ⟨_,rfl⟩ (by decide)) (q5 _)) (@e7 _ _ _ (@O1 _ _)) (@q0 _))),?_⟩;refine ⟨_,rfl,.int (n:Int),_,true,false,rfl,.int _,O3 K "int",U2 K,_,rfl,?_⟩;refine G5 ⟨_,rfl,_,_,rfl,rfl,_,rfl,?_⟩;refine M6 (fun h=>absurd (of_decide_eq_true h) (by omega)) (fun _=> ?_);refine ⟨_,rfl,_,_,rfl,rfl,_,rfl,?_⟩;exact M6 (fun h=>absurd (of_decide_eq_true h) (by omega)) (fun _=>q)
def Y1:Sp:=fun vs H Q _=>∃n:Nat,vs=[.int (n:Int)]/\n<=12/\∀(l:Addr) (as:List Addr) (H':Hp),H l=none->e8 H H'->H' l=some (.lst (as.map V.ref))->m9 H' as (n5 12 n n)->(∀b∈as,H b=none)->as.Nodup->l∉as->Q (.ref l) H'
theorem bx3:l8 ["n"] ["n"] (j5 ak9):=by rfl'
theorem bx4 {f:Addr}{fd:FuncData}(F:x6 K "kinds_of" "kinds_of" ak9 f fd)(zx:j7 P w K mg base "must_be_counted" 2 ["n"] af6)(zt:j7 P w K mg base "kinds_below" 13 ["n","most"] (ab6 12)):o7 P w K mg base x5 14 f fd ["n"] Y1:=by
 refine F.ok bx3 (fun vs H Q E h=> ?_) (fun cdv A outer s H vs Q E hr h=> ?_)
 · obtain ⟨n,rfl,hn,q⟩:=h;rfl
 · obtain ⟨n,rfl,hn,q⟩:=h;have zsz:l6 2 _:=hr.mono (by decide);have zpy:l6 13 _:=hr.mono (by decide);refine ⟨_,@c7 _ _ _ _ _ (@p7 _ _ _ _ (@i4 _ _ _ _ _ _ _ _ _ _ zx zsz (@c5 _ _ _ _ _ (pv 0) (@c6 _) (by rfl)) (by rfl) (by decide) (by rfl) (by rfl)) (by rfl)) (@e7 _ _ _ (@l5 _ _ _ _ (@i4 _ _ _ _ _ _ _ _ _ _ zt zpy (@c5 _ _ _ _ _ (pv 0) (@c5 _ _ _ _ _ (pv 0) (@c6 _) (by rfl)) (by rfl)) (by rfl) (by decide) (by rfl) (by rfl)))),?_⟩;refine ⟨_,rfl,n,rfl,hn,?_⟩;exact ⟨_,rfl,_,rfl,n,n,rfl,hn,hn,by decide,fun l as H' a1 a2 a3 a4 a5 a6 a7=>q l as H' a1 a2 a3 a4 a5 a6 a7⟩
end
end My
namespace My
open PySem L2 Mth
section
variable {P:Program} {w:World} {K:PySem.W.Frag} {mg:Str->Option Value} {base:Heap}
structure R9 (ks:List Int):Prop where
 pos:∀x∈ks,1<=x
 fal:ks.Pairwise (· ≥ ·)
 sum:ks.sum<=40
def aw3:Sp:=fun vs H Q _=>∃(a:Addr) (ks:List Int),vs=[.ref a]/\H a=some (.lst (ks.map V.int))/\R9 ks/\∀H':Hp,e8 H H'->Q (.bl true) H'
theorem S0:∀{l:List Int},(∀x∈l,1<=x)->(l.length:Int)<=l.sum
 |[],_=>by simp
 |a::l,h=>by
  have:=S0 fun y hy=>h y (ds6 _ hy)
  have:=h a ds5;rw[dz4,dv9];omega
theorem V5:∀{l:List Int},(∀x∈l,1<=x)->∀x∈l,x<=l.sum
 |[],_,x,hx=>by cases hx
 |a::l,h,x,hx=>by
  have h1:=S0 fun y hy=>h y (ds6 _ hy)
  have h2:=h a ds5;rw[dz4]
  rcases dt7.mp hx with rfl|hx
  · omega
  · have:=V5 (fun y hy=>h y (ds6 _ hy)) x hx;omega
theorem R9.len {ks:List Int}(h:R9 ks):ks.length<=40:=by have:=S0 h.pos;have:=h.sum;omega
theorem R9.le {ks:List Int}(h:R9 ks):∀x∈ks,x<=40:=fun x hx=>by have:=V5 h.pos x hx;have:=h.sum;omega
theorem bb3:l8 ["thing","length"] ["thing"] (j5 ao4):=by rfl'
theorem cf6 {f:Addr}{fd:FuncData}(F:x6 K "is_kind" "is_kind" ao4 f fd)(B:Bl mg)(zgz:∃t,mg "MOST_THINGS"=some (.int 40 t))(zuz:j7 P w K mg base "is_whole" 1 ["thing"] (ab3 K)):o7 P w K mg base x5 2 f fd ["thing"] aw3:=by
 refine F.ok bb3 (fun vs H Q E h=> ?_) (fun cdv A outer s H vs Q E hr h=> ?_)
 · obtain ⟨a,ks,rfl,ha,hk,q⟩:=h;rfl
 · obtain ⟨a,ks,rfl,ha,hk,q⟩:=h;obtain ⟨_,zgy⟩:=zgz;have zmx:l6 1 _:=hr.mono (by decide);have hu:=X1 hr;refine ⟨_,@c7 _ _ _ _ _ (@y9 _ _ _ _ _ _ _ _ (@K4 _ _ _ _ (@K3 _ _ _ (@ai0 _ _ _ _ _ _ B.isi (@c5 _ _ _ _ _ (pv 0) (@c5 _ _ _ _ _ (@ae9 _ _ B.list (by rfl)) (@c6 _) (by rfl)) (by rfl)) (by rfl) (by rfl) (by rfl)) (by intro _;rfl))) (@e7 _ _ _ (@l5 _ _ _ _ (@J9 _ _ _ _))) (@q0 _)) (@c7 _ _ _ _ _ (@l9 _ _ _ _ _ _ _ _ PassesOwn.never rfl (@t5 _ _ _ _ (pv 0)) (@i9 _ _ (1) _ bb3.nd rfl (Or.inl rfl) (by trivial)) (@e7 _ _ _ (@y9 _ _ _ _ _ _ _ _ (@aa1 _ _ _ _ _ _ _ (@K4 _ _ _ _ (@K3 _ _ _ (@i4 _ _ _ _ _ _ _ _ _ _ zuz zmx (@c5 _ _ _ _ _ (pv 1) (@c6 _) (by rfl)) (by rfl) (by decide) (by rfl) (by rfl)) (by intro _;rfl))) (@ac0 _ _ _ _ (@t6 _ _ _ _ _ _ _ _ ay2 (pv 1) (@g7 _ _ _ _) (q5 _)))).pt (@e7 _ _ _ (@l5 _ _ _ _ (@J9 _ _ _ _))) (@q0 _))) (by intro _;rfl)) (@e7 _ _ _ (@l5 _ _ _ _ (@ch4 _ _ _ _ _ _ _ (@aa9 _ _ _ _ _ _ _ _ (dg5 0 hu) (pv 0) (@ce7 _ _ _ _ _ _ _ _ K B.sorted (@c5 _ _ _ _ _ (pv 0) (@c6 _) (by rfl)) (by rfl) (by rfl) (by rfl) (by rfl)) (q5 _)) (@ch3 _ _ _ _ _ (@aa9 _ _ _ _ _ _ _ _ ay3 (@an8 _ _ _ _ _ rfl B.sum (@c5 _ _ _ _ _ (pv 0) (@c6 _) (by rfl)) (by rfl) (by rfl)) (@aq2 _ _ (.int 40) _ _ (by rfl) zgy ⟨_,rfl⟩ (by decide)) (q5 _))))))),?_⟩;have kl:=hk.len;refine ⟨_,rfl,_,"list",_,true,rfl,.lst ha,O3 K "list",true,rfl,?_⟩;refine G5 ?_;refine ⟨_,rfl,a,rfl,⟨_,i5.of ha⟩,w4 (K:=K) (a:=a) (xs:=ks.map V.int) (fun i σ H2=>∃v:Option V,σ=[some (.ref a),v]/\H2=H) ⟨none,rfl,rfl⟩ (fun i σ H2 _ zz=>by obtain ⟨_,_,e⟩:=zz;rw[e];exact i5.of ha) ?_ ?_⟩
   · rintro i x σ H2 hi ⟨v,rfl,rfl⟩;obtain ⟨z,hz,rfl⟩:=C9 hi;have z1:=hk.pos z (dt2 hz);refine ⟨_,rfl,.int z,_,true,false,rfl,.int z,O3 K "int",U2 K,_,rfl,?_⟩;refine G5 ⟨_,rfl,_,_,rfl,rfl,_,rfl,?_⟩;refine M6 (fun h=>absurd (of_decide_eq_true h) (by omega)) (fun _=> ?_);exact ⟨_,rfl,rfl⟩
   · rintro σ H2 ⟨v,rfl,rfl⟩;refine ⟨_,rfl,_,rfl,a,ks,rfl,i5.of ha,fun ms l pm fl hl=> ?_⟩;have em:ms=ks:=at8 pm fl hk.fal;subst em;have s3:e8 H2 (c9 H2 l (.lst (ms.map V.int))):=e8.upd_new hl;have h3l:(c9 H2 l (.lst (ms.map V.int))) l=some (.lst (ms.map V.int)):=c8;generalize (c9 H2 l (.lst (ms.map V.int)))=H3 at s3 h3l ⊢;refine ⟨a,l,_,_,_,rfl,rfl,i5.of (s3 _ _ ha),i5.of h3l,cq5 _ _ _ _ _,_,rfl,?_⟩;rw[decide_eq_true rfl];refine ac6 ⟨_,rfl,a,ms,rfl,i5.of (s3 _ _ ha),_,_,rfl,rfl,?_⟩;show Q (V.bl (decide (ms.sum<=40))) H3;rw[decide_eq_true hk.sum];exact q _ s3
def ar8:Sp:=fun vs H Q _=>∃(a:Addr) (ks:List Int),vs=[.ref a]/\H a=some (.lst (ks.map V.int))/\R9 ks/\∀(l:Addr) (t:List Int) (rs:List (List Int)) (H':Hp),H l=none->e8 H H'->H' l=some (.lst (t.map V.int))->X3 t rs->rs.flatten=n6 0 t.length->rs.map (fun r=>(r.length:Int))=ks->t.length<=40->Q (.ref l) H'
theorem ct7 (a:Int)(m n:Nat):n6 a m++n6 (a+m) n=n6 a (m+n):=by
 unfold L2.n6;rw[List.range_add,dt1,dw5]
 congr 1
 refine dx6 fun i _=> ?_
 show a+(m:Int)+(i:Int)=a+((m+i:Nat):Int);omega
def L3:Int->List Int->List (List Int)
 |_,[]=>[]
 |b,x::xs=>n6 b x.toNat::L3 (b+x) xs
theorem bb4:∀(b:Int) (xs:List Int) (y:Int),L3 b (xs++[y])=L3 b xs++[n6 (b+xs.sum) y.toNat]
 |b,[],y=>by show [n6 b y.toNat]=[n6 (b+([]:List Int).sum) y.toNat];rw[List.sum_nil,Int.add_zero]
 |b,x::xs,y=>by
  show n6 b x.toNat::L3 (b+x) (xs++[y])=n6 b x.toNat::(L3 (b+x) xs++[_]);rw[bb4,dz4,Int.add_assoc]
theorem bb5:∀(b:Int) (xs:List Int),(∀x∈xs,1<=x)->(L3 b xs).flatten=n6 b xs.sum.toNat
 |b,[],_=>by show []=_;rw[List.sum_nil];rfl
 |b,x::xs,h=>by
  have h1:=h x ds5
  have h2:=S0 fun y hy=>h y (ds6 _ hy)
  show n6 b x.toNat++(L3 (b+x) xs).flatten=_;rw[bb5 _ xs fun y hy=>h y (ds6 _ hy),dz4]
  have e:b+x=b+((x.toNat:Nat):Int):=by omega
  rw[e,ct7]
  congr 1
  omega
theorem af7:∀(b:Int) (xs:List Int),(∀x∈xs,1<=x)->(L3 b xs).map (fun r=>(r.length:Int))=xs
 |b,[],_=>rfl
 |b,x::xs,h=>by
  have h1:=h x ds5;show ((n6 b x.toNat).length:Int)::(L3 (b+x) xs).map _=_;rw[af7 _ xs fun y hy=>h y (ds6 _ hy),t8]
  congr 1
  omega
theorem ct8 {b:Int}{xs:List Int}(h:∀x∈xs,1<=x):∀r∈L3 b xs,r≠[]:=fun r hr e=>by
 have m:(r.length:Int)∈(L3 b xs).map (fun r=>(r.length:Int)):=dt0.mpr ⟨r,hr,rfl⟩;rw[af7 b xs h] at m;have:=h _ m;rw[e] at this;simp at this
theorem au3 {ks:List Int}(h:∀x∈ks,1<=x)(i:Nat):(ks.take i).sum<=ks.sum:=by
 have e:ks.sum=(ks.take i).sum+(ks.drop i).sum:=by rw[<-ec0,dx2]
 have:=S0 (l:=ks.drop i) fun y hy=>h y (ec3 hy)
 omega
theorem L6:l8 ["kind","rounds","begin","length"] ["kind"] (j5 Z4):=by rfl'
theorem be8 {f:Addr}{fd:FuncData}(F:x6 K "one_of_kind" "one_of_kind" Z4 f fd)(B:Bl mg)(zxx:j7 P w K mg base "from_rounds" 3 ["rounds"] ao8):o7 P w K mg base x5 4 f fd ["kind"] ar8:=by
 refine F.ok L6 (fun vs H Q E h=> ?_) (fun cdv A outer s H vs Q E hr h=> ?_)
 · obtain ⟨a,ks,rfl,ha,hk,q⟩:=h;rfl
 · obtain ⟨a,ks,rfl,ha,hk,q⟩:=h;have zo:l6 3 _:=hr.mono (by decide);refine ⟨_,@c7 _ _ _ _ _ (@i6 _ _ (1) _ _ _ _ L6.nd rfl (Or.inl rfl) (@p8 _ _ _ _ (@c6 _)) (by rfl) (by trivial)) (@c7 _ _ _ _ _ (@i6 _ _ (2) _ _ _ _ L6.nd rfl (Or.inl rfl) (@g7 _ _ _ _) (by rfl) (by trivial)) (@c7 _ _ _ _ _ (@l9 _ _ _ _ _ _ _ _ PassesOwn.never rfl (@t5 _ _ _ _ (pv 0)) (@i9 _ _ (3) _ L6.nd rfl (Or.inl rfl) (by trivial)) (@c7 _ _ _ _ _ (@p7 _ _ _ _ (@x8 _ _ _ _ _ _ _ (pv 1) (@c5 _ _ _ _ _ (@bw9 _ _ _ _ _ _ _ _ rfl B.list B.range (@c5 _ _ _ _ _ (pv 2) (@c5 _ _ _ _ _ (@j6 _ _ _ _ _ _ _ _ x3 (pv 2) (pv 3)) (@c6 _) (by rfl)) (by rfl)) (by rfl) (by rfl) (by rfl) (by rfl) (by rfl)) (@c6 _) (by rfl)) (by rfl) (by rfl) (by rfl) (by rfl) (by rfl)) (by rfl)) (@e7 _ _ _ (@i6 _ _ (2) _ _ _ _ L6.nd rfl (Or.inl rfl) (@j6 _ _ _ _ _ _ _ _ x3 (pv 2) (pv 3)) (by rfl) (by trivial)))) (by intro _;rfl)) (@e7 _ _ _ (@l5 _ _ _ _ (@i4 _ _ _ _ _ _ _ _ _ _ zxx zo (@c5 _ _ _ _ _ (pv 1) (@c6 _) (by rfl)) (by rfl) (by decide) (by rfl) (by rfl)))))),?_⟩;have kl:=hk.len;refine ⟨du3 _,fun L hL=> ?_⟩;have s1:e8 H (c9 H L (.lst [])):=e8.upd_new hL;have h1L:(c9 H L (.lst [])) L=some (.lst (([]:List Addr).map V.ref)):=c8;generalize (c9 H L (.lst []))=H1 at s1 h1L ⊢
   refine ⟨_,rfl,a,rfl,⟨_,i5.of (s1 _ _ ha)⟩,w4 (K:=K) (a:=a) (xs:=ks.map V.int) (fun i σ H2=>∃(as:List Addr) (v3:Option V),σ=[some (.ref a),some (.ref L),some (.int (ks.take i).sum),v3]/\H2 L=some (.lst (as.map V.ref))/\m9 H2 as (L3 0 (ks.take i))/\e8 H H2/\(∀b∈as,H b=none)/\L∉as)
     ⟨[],none,rfl,h1L,⟨rfl,fun j b r h=>by cases h⟩,s1,(fun b hb=>by cases hb),(fun z=>by cases z)⟩ (fun i σ H2 _ zz=>by obtain ⟨_,_,_,_,_,s,_⟩:=zz;exact i5.of (s _ _ ha)) ?_ ?_⟩
   · rintro i x σ H2 hi ⟨as,v3,rfl,h2L,rows,s2,fa,nla⟩;obtain ⟨z,hz,rfl⟩:=C9 hi;have z1:=hk.pos z (dt2 hz)
     have t0:=S0 (l:=ks.take i) fun y hy=>hk.pos y (dy5 hy)
     have et:=i7 hz;have t1:=au3 hk.pos (i+1);have hs40:=hk.sum;rw[et,ec0,ec1] at t1;have il:i < ks.length:=(ds3.mp hz).1;have alen:=rows.1
     have vlen:(L3 0 (ks.take i)).length=i:=by
       have:=congrArg ef7 (af7 0 (ks.take i) fun y hy=>hk.pos y (dy5 hy));rw[ds1,du1] at this;omega
     refine ⟨_,rfl,.inl ⟨rfl,_,i5.of h2L⟩,_,rfl,_,rfl,_,rfl,_,_,rfl,rfl,_,_,rfl,fun r hr'=> ?_⟩;have nLr:L≠r:=g6 h2L hr';have s3:e8 H2 (c9 H2 r (.rng (ks.take i).sum ((ks.take i).sum+z))):=e8.upd_new hr';have h3r:(c9 H2 r (.rng (ks.take i).sum ((ks.take i).sum+z))) r=some (.rng (ks.take i).sum ((ks.take i).sum+z)):=c8;generalize (c9 H2 r (.rng (ks.take i).sum ((ks.take i).sum+z)))=H3 at s3 h3r ⊢;refine ⟨r,_,_,rfl,h3r,⟨by omega,by omega,by omega,by omega⟩,by omega,fun e he=> ?_⟩
     have ez:((ks.take i).sum+z - (ks.take i).sum).toNat=z.toNat:=by omega
     rw[ez];have h3L:=s3 _ _ h2L;have nLe:L≠e:=g6 h3L he
     have h4L:(c9 H3 e (.lst ((n6 (ks.take i).sum z.toNat).map V.int))) L=some (.lst (as.map V.ref)):=by rw[g8 nLe];exact h3L
     refine ⟨L,_,_,rfl,rfl,h4L,o9 (by rw[ds1];omega),?_⟩
     have es:as.map V.ref++[V.ref e]=(as++[e]).map V.ref:=by rw[dt1];rfl
     rw[es];have he2:H2 e=none:=s3.free he;have h5L:(c9 (c9 H3 e (.lst ((n6 (ks.take i).sum z.toNat).map V.int))) L (.lst ((as++[e]).map V.ref))) L=some (.lst ((as++[e]).map V.ref)):=c8
     have h5e:(c9 (c9 H3 e (.lst ((n6 (ks.take i).sum z.toNat).map V.int))) L (.lst ((as++[e]).map V.ref))) e=some (.lst ((n6 (ks.take i).sum z.toNat).map V.int)):=by rw[g8 nLe.symm,c8]
     have k5:i8 L H2 (c9 (c9 H3 e (.lst ((n6 (ks.take i).sum z.toNat).map V.int))) L (.lst ((as++[e]).map V.ref))):=fun c o hc hn=>by rw[g8 hn,g8 (g6 (s3 c o hc) he)];exact s3 c o hc
     generalize (c9 (c9 H3 e (.lst ((n6 (ks.take i).sum z.toNat).map V.int))) L (.lst ((as++[e]).map V.ref)))=H5 at h5L h5e k5 ⊢;refine ⟨_,rfl,_,rfl,_,_,rfl,rfl,as++[e],some (.int z),?_,h5L,?_,s2.kb k5 hL,fun c hc=> ?_,?_⟩
     · rw[et,ec0,ec1];rfl
     · rw[et,bb4,Int.zero_add];exact K7 (t9 rows fun c hc o e=>k5 c o e fun z=>nla (z▸hc)) h5e
     · rcases dt4.mp hc with z|z
       · exact fa c z
       · rw[dt3.mp z];exact s2.free he2
     · intro z
       rcases dt4.mp z with z|z
       · exact nla z
       · exact nLe (dt3.mp z)
   · rintro σ H2 ⟨as,v3,rfl,h2L,rows,s2,fa,nla⟩;rw[ds1,du7] at rows;have fl:=bb5 0 ks hk.pos
     have lenf:(L3 0 ks).flatten.length=ks.sum.toNat:=by rw[fl,t8]
     have s0:=S0 hk.pos;have hs40:=hk.sum
     have isT:o6 (L3 0 ks).flatten:=by
       rw[fl];refine ⟨?_,fun x hx=>(A4.mp hx).1,fun x hx=> ?_⟩
       · unfold L2.n6;exact List.Pairwise.map _ (fun a b h=>by omega) (eb2 (n:=ks.sum.toNat))
       · rw[t8];exact (A4.mp hx).2
     refine ⟨_,rfl,L,as,_,rfl,h2L,rows,ct8 hk.pos,isT,by omega,fun o t H3 ho s3 h3o tl al=> ?_⟩;exact q o t (L3 0 ks) H3 (s2.free ho) (s2.trans s3) h3o al (by rw[fl,tl,lenf]) (af7 0 ks hk.pos) (by omega)
def T0:Sp:=fun vs H Q _=>∃n:Nat,vs=[.int (n:Int)]/\n<=1000/\Q (.int ((E9 n:Nat):Int)) H
theorem V6:l8 ["n","many","free"] ["n"] (j5 ag9):=by rfl'
theorem bs7 {f:Addr}{fd:FuncData}(F:x6 K "orders_of" "orders_of" ag9 f fd)(B:Bl mg):o7 P w K mg base x5 1 f fd ["n"] T0:=by
 refine F.ok V6 (fun vs H Q E h=> ?_) (fun cdv A outer s H vs Q E hr h=> ?_)
 · obtain ⟨n,rfl,hn,q⟩:=h;rfl
 · obtain ⟨n,rfl,hn,q⟩:=h;refine ⟨_,@c7 _ _ _ _ _ (@i6 _ _ (1) _ _ _ _ V6.nd rfl (Or.inl rfl) (@g7 _ _ _ _) (by rfl) (by trivial)) (@c7 _ _ _ _ _ (@l9 _ _ _ _ _ _ _ _ PassesOwn.never rfl (@K5 _ _ _ _ _ _ _ (by rfl) B.range (@c5 _ _ _ _ _ (@g7 _ _ _ _) (@c5 _ _ _ _ _ (@j6 _ _ _ _ _ _ _ _ x3 (pv 0) (@g7 _ _ _ _)) (@c6 _) (by rfl)) (by rfl)) (by rfl) (by rfl)) (@i9 _ _ (2) _ V6.nd rfl (Or.inl rfl) (by trivial)) (@e7 _ _ _ (@i6 _ _ (1) _ _ _ _ V6.nd rfl (Or.inl rfl) (@j6 _ _ _ _ _ _ _ _ C4 (pv 1) (pv 2)) (by rfl) (by trivial))) (by intro _;rfl)) (@e7 _ _ _ (@l5 _ _ _ _ (pv 1)))),?_⟩;refine ⟨_,rfl,_,_,rfl,rfl,1,(n:Int)+1,rfl,⟨by decide,by decide,by omega,by omega⟩,?_⟩
   have en:((n:Int)+1 - 1).toNat=n:=by omega
   rw[en];refine E8 (lo:=1) (n:=n) (fun i σ H2=>∃v2:Option V,σ=[some (.int (n:Int)),some (.int ((E9 i:Nat):Int)),v2]/\H2=H) ⟨none,rfl,rfl⟩ ?_ ?_
   · rintro i σ H2 hi ⟨v2,rfl,rfl⟩
     have e64:(2:Int)^64=18446744073709551616:=by decide
     refine ⟨_,rfl,_,rfl,_,_,rfl,rfl,.inr ⟨by rw[e64];omega,by rw[e64];omega⟩,some (.int (1+(i:Int))),?_,rfl⟩
     have e:((E9 i:Nat):Int)*(1+(i:Int))=((E9 (i+1):Nat):Int):=by
       show _=((E9 i*(i+1):Nat):Int);rw[dy6];congr 1;omega
     rw[<-e];rfl
   · rintro σ H2 ⟨v2,rfl,rfl⟩;exact ⟨_,rfl,q⟩
def ar9:Sp:=fun vs H Q _=>∃(a:Addr) (ks:List Int),vs=[.ref a]/\H a=some (.lst (ks.map V.int))/\R9 ks/\∀H':Hp,e8 H H'->Q (.int ((C7 ks:Nat):Int)) H'
theorem bs8:∀rs:List (List Int),(rs.map fun r=>(r.length:Int)).sum=(rs.flatten.length:Int)
 |[]=>rfl
 |r::rs=>by
  rw[du9,dz4,bs8 rs,dt9,ds8];omega
theorem cn5 {ks t:List Int}{rs:List (List Int)}(hk:R9 ks)(al:X3 t rs)(fl:rs.flatten=n6 0 t.length)(lens:rs.map (fun r=>(r.length:Int))=ks):j8 (af5 t) ((dv4 t.length).map (· +1))=zK ks ks.length:=by
 have tot:ks.sum=(t.length:Int):=by rw[<-lens,bs8,fl,t8]
 have nd:((dv4 t.length).map (· +1)).Nodup:=List.Pairwise.map (fun x:Nat=>x+1) (fun a b h=>by omega) (eb2 (n:=t.length))
 rw[bz3 hk.pos nd (fun x hx=>by
   have h1:=hk.pos x hx;have h2:=V5 hk.pos x hx
   exact dt0.mpr ⟨x.toNat - 1,dv0.mpr (by omega),by omega⟩) ks.length (ds4 _)]
 have same:∀us:List Nat,(∀u∈us,1<=u)->j8 (af5 t) us=j8 (fun l=>J3 l ((ks.take ks.length).countP fun x=>decide (x.toNat=l))) us:=by
   intro us
   induction us with
   |nil=>intro _;rfl
   |cons u us ih=>
    intro hu;show af5 t u*j8 (af5 t) us=J3 u _*j8 _ us;rw[ih fun v hv=>hu v (ds6 _ hv)]
    congr 1
    have u1:=hu u ds5;unfold af5 cf3;rw[au1 al fl u,dy9 _ (by omega),du7]
    congr 1
    rw[<-lens,dz0];unfold l7
    refine dz3 fun r _=> ?_
    simp
 exact same _ fun u hu=>by obtain ⟨i,_,rfl⟩:=dt0.mp hu;omega
theorem be9:l8 ["kind"] ["kind"] (j5 Z5):=by rfl'
theorem bf0 {f:Addr}{fd:FuncData}(F:x6 K "how_many_of" "how_many_of" Z5 f fd)(B:Bl mg)(zkx:j7 P w K mg base "is_kind" 2 ["thing"] aw3)(zl:j7 P w K mg base "orders_of" 1 ["n"] T0)(zrx:j7 P w K mg base "how_many_past" 4 ["p"] cf4)(zvy:j7 P w K mg base "one_of_kind" 4 ["kind"] ar8):o7 P w K mg base x5 5 f fd ["kind"] ar9:=by
 refine F.ok be9 (fun vs H Q E h=> ?_) (fun cdv A outer s H vs Q E hr h=> ?_)
 · obtain ⟨a,ks,rfl,ha,hk,q⟩:=h;rfl
 · obtain ⟨a,ks,rfl,ha,hk,q⟩:=h;have hr_is_kind:l6 2 _:=hr.mono (by decide);have zf:l6 1 _:=hr.mono (by decide);have zjx:l6 4 _:=hr.mono (by decide);have zoz:l6 4 _:=hr.mono (by decide);refine ⟨_,@c7 _ _ _ _ _ (@y9 _ _ _ _ _ _ _ _ (@K4 _ _ _ _ (@K3 _ _ _ (@i4 _ _ _ _ _ _ _ _ _ _ zkx hr_is_kind (@c5 _ _ _ _ _ (pv 0) (@c6 _) (by rfl)) (by rfl) (by decide) (by rfl) (by rfl)) (by intro _;rfl))) (@e7 _ _ _ (@O1 _ _)) (@q0 _)) (@e7 _ _ _ (@l5 _ _ _ _ (@j6 _ _ _ _ _ _ _ _ cr8 (@i4 _ _ _ _ _ _ _ _ _ _ zl zf (@c5 _ _ _ _ _ (@an8 _ _ _ _ _ rfl B.sum (@c5 _ _ _ _ _ (pv 0) (@c6 _) (by rfl)) (by rfl) (by rfl)) (@c6 _) (by rfl)) (by rfl) (by decide) (by rfl) (by rfl)) (@i4 _ _ _ _ _ _ _ _ _ _ zrx zjx (@c5 _ _ _ _ _ (@i4 _ _ _ _ _ _ _ _ _ _ zvy zoz (@c5 _ _ _ _ _ (pv 0) (@c6 _) (by rfl)) (by rfl) (by decide) (by rfl) (by rfl)) (@c6 _) (by rfl)) (by rfl) (by decide) (by rfl) (by rfl))))),?_⟩;refine ⟨_,rfl,a,ks,rfl,ha,hk,fun H1 s1=>⟨true,rfl,?_⟩⟩;refine G5 ?_;have h1a:=s1 _ _ ha;have s0:=S0 hk.pos;have hs:=hk.sum
   have es:ks.sum=((ks.sum.toNat:Nat):Int):=by omega
   refine ⟨_,rfl,a,ks,rfl,i5.of h1a,ks.sum.toNat,congrArg (fun z=>[V.int z]) es,by omega,_,rfl,a,ks,rfl,h1a,hk,fun l t rs H2 hl s2 h2l al fl lens tl=> ?_⟩;refine ⟨l,t,rfl,⟨h2l,aa7 al fl,tl⟩,fun H3 s3=> ?_⟩;rw[cn5 hk al fl lens];obtain ⟨b1,b2⟩:=bq6 hk.pos hk.le hk.len ks.length (ds4 _);refine ⟨_,_,rfl,rfl,⟨by omega,by rw[ee1];exact da7 hk.len b2⟩,?_⟩;exact q H3 ((s1.trans s2).trans s3)
end
end My
namespace My
open PySem L2 Mth
section
variable {P:Program} {w:World} {K:PySem.W.Frag} {mg:Str->Option Value} {base:Heap}
def D2 (xs:List Nat):List Int:=xs.map fun (d:Nat)=>(d:Int)
def o5 (l m j:Nat):List Nat:=((dv4 j).map (· +1)).filter fun d=>decide (du0 (d*l) m=d)
theorem bs9 (l m j:Nat):o5 l m (j+1)=if du0 ((j+1)*l) m=j+1 then o5 l m j++[j+1] else o5 l m j:=by
 unfold o5;rw[ef1,dt1,ed2];show _++List.filter _ [j+1]=_
 split
 · rename_i h;rw[ec5 (p:=fun d=>decide (du0 (d*l) m=d)) (decide_eq_true h)];rfl
 · rename_i h;rw[ec6 (p:=fun d=>decide (du0 (d*l) m=d)) (by simpa using h),ef2,du8]
theorem ah3 (l m j:Nat):(o5 l m j).length<=j:=by
 unfold o5;refine dt6 (ee6 _ _) ?_;rw[ds1,dw1];exact ds4 _
theorem D0 {l m j d:Nat}(h:d∈o5 l m j):1<=d/\d<=j:=by
 unfold o5 at h;obtain ⟨i,hi,e⟩:=dt0.mp (dx8.mp h).1;have:=dv0.mp hi;omega
def al3:Sp:=fun vs H Q _=>∃(l m j:Nat),vs=[.int (l:Int),.int (m:Int),.int (j:Int)]/\l<=1000/\j<=1000/\∀(a:Addr) (H':Hp),H a=none->e8 H H'->H' a=some (.lst ((D2 (o5 l m j)).map V.int))->Q (.ref a) H'
theorem aw4:l8 ["length","m","most"] ["length","m","most"] (j5 U9):=by rfl'
theorem Y2:(["d","m","length"]:List Str).Nodup:=by decide+kernel
theorem aw5 {f:Addr}{fd:FuncData}(F:x6 K "right_numbers" "right_numbers" U9 f fd)(B:Bl mg)(ztx:j7 P w K mg base "greatest_part" 1 ["a","b"] bl9):o7 P w K mg base x5 2 f fd ["length","m","most"] al3:=by
 refine F.ok aw4 (fun vs H Q E h=> ?_) (fun cdv A outer s H vs Q E hr h=> ?_)
 · obtain ⟨l,m,j,rfl,hl,hj,q⟩:=h;rfl
 · obtain ⟨l,m,j,rfl,hl,hj,q⟩:=h;have zi:l6 1 _:=hr.mono (by decide);refine ⟨_,@e7 _ _ _ (@l5 _ _ _ _ (@bd4 _ _ _ _ _ _ _ _ _ _ _ (["d","m","length"]) (1) ([1,0]) rfl .of (@K5 _ _ _ _ _ _ _ (by rfl) B.range (@c5 _ _ _ _ _ (@g7 _ _ _ _) (@c5 _ _ _ _ _ (@j6 _ _ _ _ _ _ _ _ x3 (pv 2) (@g7 _ _ _ _)) (@c6 _) (by rfl)) (by rfl)) (by rfl) (by rfl)) (fun _ _ _ _ _=>@i9 _ _ (0) _ Y2 rfl (Or.inl rfl) (by trivial)) (fun _ _ _ _ _=>@av0 _ _ _ (@t6 _ _ _ _ _ _ _ _ U0 (@i4 _ _ _ _ _ _ _ _ _ _ ztx zi (@c5 _ _ _ _ _ (@j6 _ _ _ _ _ _ _ _ C4 (pv 0) (pv 2)) (@c5 _ _ _ _ _ (pv 1) (@c6 _) (by rfl)) (by rfl)) (by rfl) (by decide) (by rfl) (by rfl)) (pv 0) (q5 _))) (fun _ _ _ _ _=>(pv 0)) (by intro _;rfl))),?_⟩;refine ⟨_,rfl,_,_,rfl,rfl,1,(j:Int)+1,rfl,⟨by decide,by decide,by omega,by omega⟩,?_⟩
   have en:((j:Int)+1 - 1).toNat=j:=by omega
   rw[en];refine az2 (lo:=1) (n:=j) (fun i ys σ H2=>∃v:Option V,σ=[v,some (.int (m:Int)),some (.int (l:Int))]/\H2=H/\ys=(D2 (o5 l m i)).map V.int) ⟨none,rfl,rfl,by simp [o5,D2]⟩ ?_ ?_
   · rintro i ys σ H2 hi ⟨v,rfl,rfl,rfl⟩;have li:=ah3 l m i;have es:=bs9 l m i
     have e1:(1:Int)+(i:Int)=((i+1:Nat):Int):=by omega
     refine ⟨_,rfl,_,rfl,_,_,rfl,rfl,.inr ⟨by omega,by omega⟩,_,rfl,(i+1)*l,m,?_,?_⟩
     · show [V.int ((1+(i:Int))*(l:Int)),V.int (m:Int)]++[]=_;rw[e1,<-dy6];rfl
     refine ⟨_,rfl,rfl,_,rfl,M6 (fun h1=> ?_) (fun h1=> ?_)⟩
     · have d1:du0 ((i+1)*l) m=i+1:=by
         have:=V.int.inj (of_decide_eq_true h1);omega
       refine ⟨_,rfl,o9 (by unfold D2;rw[ds1,ds1];omega),_,rfl,rfl,?_⟩;rw[es,if_pos d1];unfold D2;rw[dt1,dt1,e1];rfl
     · have d1:¬du0 ((i+1)*l) m=i+1:=fun e=>h1 (decide_eq_true (congrArg V.int (by rw[e];omega)))
       refine ⟨_,rfl,rfl,?_⟩;rw[es,if_neg d1]
   · rintro ys σ H2 ⟨v,rfl,rfl,rfl⟩ D hD;exact q D _ hD (e8.upd_new hD) c8
def w6 (n l:Nat):Nat->Nat
 |0=>1
 |k+1=>w6 n l k*(n - (k+1))*l
def aw6:Sp:=fun vs H Q _=>∃(n d l:Nat),vs=[.int (n:Int),.int (d:Int),.int (l:Int)]/\1<=d/\d<=n/\n<=1000/\l<=1000/\Q (.int ((w6 n l (d - 1):Nat):Int)) H
theorem L4:l8 ["left","part","length","ways","taken"] ["left","part","length"] (j5 S8):=by rfl'
theorem as5 {f:Addr}{fd:FuncData}(F:x6 K "ways_to_follow" "ways_to_follow" S8 f fd)(B:Bl mg):o7 P w K mg base x5 1 f fd ["left","part","length"] aw6:=by
 refine F.ok L4 (fun vs H Q E h=> ?_) (fun cdv A outer s H vs Q E hr h=> ?_)
 · obtain ⟨n,d,l,rfl,d1,dn,hn,hl,q⟩:=h;rfl
 · obtain ⟨n,d,l,rfl,d1,dn,hn,hl,q⟩:=h;refine ⟨_,@c7 _ _ _ _ _ (@i6 _ _ (3) _ _ _ _ L4.nd rfl (Or.inl rfl) (@g7 _ _ _ _) (by rfl) (by trivial)) (@c7 _ _ _ _ _ (@l9 _ _ _ _ _ _ _ _ PassesOwn.never rfl (@K5 _ _ _ _ _ _ _ (by rfl) B.range (@c5 _ _ _ _ _ (@g7 _ _ _ _) (@c5 _ _ _ _ _ (pv 1) (@c6 _) (by rfl)) (by rfl)) (by rfl) (by rfl)) (@i9 _ _ (4) _ L4.nd rfl (Or.inl rfl) (by trivial)) (@e7 _ _ _ (@i6 _ _ (3) _ _ _ _ L4.nd rfl (Or.inl rfl) (@j6 _ _ _ _ _ _ _ _ C4 (@j6 _ _ _ _ _ _ _ _ C4 (pv 3) (@j6 _ _ _ _ _ _ _ _ ay1 (pv 0) (pv 4))) (pv 2)) (by rfl) (by trivial))) (by intro _;rfl)) (@e7 _ _ _ (@l5 _ _ _ _ (pv 3)))),?_⟩;refine ⟨_,rfl,1,(d:Int),rfl,⟨by decide,by decide,by omega,by omega⟩,?_⟩
   have en:((d:Int) - 1).toNat=d - 1:=by omega
   rw[en];refine E8 (lo:=1) (n:=d - 1) (fun i σ H2=>∃v:Option V,σ=[some (.int (n:Int)),some (.int (d:Int)),some (.int (l:Int)),some (.int ((w6 n l i:Nat):Int)),v]/\H2=H) ⟨none,rfl,rfl⟩ ?_ ?_
   · rintro i σ H2 hi ⟨v,rfl,rfl⟩
     have e64:(2:Int)^64=18446744073709551616:=by decide
     refine ⟨_,rfl,_,rfl,_,rfl,_,_,rfl,rfl,_,_,rfl,rfl,.inr ⟨by rw[e64];omega,by rw[e64];omega⟩,_,rfl,_,_,rfl,rfl,.inr ⟨by rw[e64];omega,by rw[e64];omega⟩,some (.int (1+(i:Int))),?_,rfl⟩
     have e:((w6 n l i:Nat):Int)*((n:Int) - (1+(i:Int)))*(l:Int)=((w6 n l (i+1):Nat):Int):=by
       show _=((w6 n l i*(n - (i+1))*l:Nat):Int);rw[dy6,dy6]
       congr 2
       omega
     rw[<-e];rfl
   · rintro σ H2 ⟨v,rfl,rfl⟩;exact ⟨_,rfl,q⟩
def al4 (l:Nat)(rs cs:List Nat)(n:Nat):Nat:=((rs.filter fun d=>decide (d<=n)).map fun d=>w6 n l (d - 1)*cs.getD (n - d) 0).sum
def A5 (l:Nat)(rs:List Nat):Nat->List Nat
 |0=>[1]
 |k+1=>A5 l rs k++[al4 l rs (A5 l rs k) (k+1)]
def p0 (l m n:Nat):Nat:=(A5 l (o5 l m n) n).getD n 0
theorem K8 (l:Nat)(rs:List Nat):∀k,(A5 l rs k).length=k+1
 |0=>rfl
 |k+1=>by
  show (A5 l rs k++[_]).length=_;rw[ds8,K8 l rs k];rfl
theorem ap2 {n l:Nat}(h:n*l<=1600):∀k,w6 n l k<=1600^k
 |0=>ds4 _
 |k+1=>by
  show w6 n l k*(n - (k+1))*l<=_;rw[dx3,ej6];refine ec7 (ap2 h k) (dt6 (dz5 _ (Nat.sub_le _ _)) h)
theorem bb6 {c:Nat}:∀{xs:List Nat},(∀x∈xs,x<=c)->xs.sum<=xs.length*c
 |[],_=>du3 _
 |x::xs,h=>by
  have:=bb6 fun y hy=>h y (ds6 _ hy)
  have:=h x ds5;rw[dz4,dv9,Nat.add_mul,eo1];omega
theorem aw7 {l:Nat}{rs:List Nat}(hl:l<=40)(hr:rs.length<=40)(h1:∀d∈rs,1<=d):∀k,k<=40->∀i,(A5 l rs k).getD i 0<=1600^i
 |0,_,0=>ds4 _
 |0,_,i+1=>du3 _
 |k+1,hk,i=>by
  have ih:=aw7 hl hr h1 k (by omega);show (A5 l rs k++[_]).getD i 0<=_;have ln:=K8 l rs k;rw[ds7]
  by_cases z:i < k+1
  · rw[dv8 (by omega),<-ds7];exact ih i
  · rw[dw7 (by omega),ln]
    by_cases y:i=k+1
    · subst y;rw[ej5];show al4 l rs (A5 l rs k) (k+1)<=_;unfold al4;refine dt6 (bb6 (c:=1600^k) fun x hx=> ?_) ?_
      · obtain ⟨d,hd,rfl⟩:=dt0.mp hx;obtain ⟨hd1,hd2⟩:=dx8.mp hd;have d1:=h1 d hd1;have d2:d<=k+1:=of_decide_eq_true hd2;have a:=ap2 (n:=k+1) (l:=l) (dt6 (ec7 hk hl) (by decide)) (d - 1);have b:=ih (k+1 - d);refine dt6 (ec7 a b) ?_;rw[<-Nat.pow_add,show d - 1+(k+1 - d)=k by omega];exact ds4 _
      · rw[ds1,ej6,dy8 (1600^k)];refine dz5 _ ?_;have:=ee6 (fun d=>decide (d<=k+1)) rs;omega
    · rw[dt5 (by show 1<=i - (k+1);omega)];exact du3 _
theorem cb1 {xs:List Nat}{i:Int}(h0:0<=i)(h1:i < xs.length):atI ((D2 xs).map V.int) i=some (.int ((xs.getD i.toNat 0:Nat):Int)):=by
 have l:(D2 xs).length=xs.length:=ds1 ..;rw[Mth.ar0 h0 (by rw[l];exact h1)]
 congr 2
 unfold D2;rw[ds7,ds7,ds9]
 cases xs[i.toNat]? <;>rfl
theorem di4 {xs:List Nat}{j:Nat}{x:V}(h:((D2 xs).map V.int)[j]? =some x):∃d:Nat,xs[j]? =some d/\x= .int (d:Int):=by
 unfold D2 at h;rw[ds9,ds9] at h
 cases e:xs[j]? with
 |none=>rw[e] at h;cases h
 |some d=>rw[e] at h;exact ⟨d,rfl,(Option.some.inj h).symm⟩
theorem bf1:∀xs:List Nat,(D2 xs).sum=((xs.sum:Nat):Int)
 |[]=>rfl
 |x::xs=>by
  show (x:Int)+(D2 xs).sum=_;rw[bf1 xs,dz4,eh0]
theorem bt0 (i:Nat)(h:i<=40){n:Nat}(hn:440 < n):1600^i < 2^n:=by
 have a:1600^i<=(2^11)^i:=Nat.pow_le_pow_left (by decide) i;rw[<-Nat.pow_mul] at a;exact dw0 a (Nat.pow_lt_pow_right (by decide) (by omega))
def bf2:Sp:=fun vs H Q _=>∃(l n m:Nat),vs=[.int (l:Int),.int (n:Int),.int (m:Int)]/\l<=40/\n<=40/\∀H':Hp,e8 H H'->Q (.int ((p0 l m n:Nat):Int)) H'
theorem L7:l8 ["length","many","m","right","counts","left","ways"] ["length","many","m"] (j5 Z3):=by rfl'
theorem N7:(["part","left","length","counts"]:List Str).Nodup:=by decide+kernel
theorem bf3 {f:Addr}{fd:FuncData}(F:x6 K "count_joins" "count_joins" Z3 f fd)(B:Bl mg)(zxy:j7 P w K mg base "right_numbers" 2 ["length","m","most"] al3)(zr:j7 P w K mg base "ways_to_follow" 1 ["left","part","length"] aw6):o7 P w K mg base x5 3 f fd ["length","many","m"] bf2:=by
 refine F.ok L7 (fun vs H Q E h=> ?_) (fun cdv A outer s H vs Q E hr h=> ?_)
 · obtain ⟨l,n,m,rfl,hl,hn,q⟩:=h;rfl
 · obtain ⟨l,n,m,rfl,hl,hn,q⟩:=h;have zrz:l6 2 _:=hr.mono (by decide);have zjy:l6 1 _:=hr.mono (by decide);refine ⟨_,@c7 _ _ _ _ _ (@i6 _ _ (3) _ _ _ _ L7.nd rfl (Or.inl rfl) (@i4 _ _ _ _ _ _ _ _ _ _ zxy zrz (@c5 _ _ _ _ _ (pv 0) (@c5 _ _ _ _ _ (pv 2) (@c5 _ _ _ _ _ (pv 1) (@c6 _) (by rfl)) (by rfl)) (by rfl)) (by rfl) (by decide) (by rfl) (by rfl)) (by rfl) (by trivial)) (@c7 _ _ _ _ _ (@i6 _ _ (4) _ _ _ _ L7.nd rfl (Or.inr rfl) (@p8 _ _ _ _ (@c5 _ _ _ _ _ (@g7 _ _ _ _) (@c6 _) (by rfl))) (by rfl) (by trivial)) (@c7 _ _ _ _ _ (@l9 _ _ _ _ _ _ _ _ PassesOwn.never rfl (@K5 _ _ _ _ _ _ _ (by rfl) B.range (@c5 _ _ _ _ _ (@g7 _ _ _ _) (@c5 _ _ _ _ _ (@j6 _ _ _ _ _ _ _ _ x3 (pv 1) (@g7 _ _ _ _)) (@c6 _) (by rfl)) (by rfl)) (by rfl) (by rfl)) (@i9 _ _ (5) _ L7.nd rfl (Or.inr rfl) (by trivial)) (@c7 _ _ _ _ _ (@cz5 _ (6) _ _ _ _ _ _ _ _ _ _ _ _ _ (["part","left","length","counts"]) (1) ([5,0,4]) L7.nd rfl (Or.inl rfl) rfl .of (@t5 _ _ _ _ (pv 3)) (fun _ _ _ _ _=>@i9 _ _ (0) _ N7 rfl (Or.inl rfl) (by trivial)) (fun _ _ _ _ _=>@av0 _ _ _ (@t6 _ _ _ _ _ _ _ _ ay3 (pv 0) (pv 1) (q5 _))) (fun _ _ _ _ _=>(@j6 _ _ _ _ _ _ _ _ ar5 (@i4 _ _ _ _ _ _ _ _ _ _ zr zjy (@c5 _ _ _ _ _ (pv 1) (@c5 _ _ _ _ _ (pv 0) (@c5 _ _ _ _ _ (pv 2) (@c6 _) (by rfl)) (by rfl)) (by rfl)) (by rfl) (by decide) (by rfl) (by rfl)) (@G9 _ _ _ _ _ _ (df2 K) C1 (pv 3) (@j6 _ _ _ _ _ _ _ _ ay1 (pv 1) (pv 0)) (fun _ _=>rfl)))) (by rfl) (by intro _;rfl) (by trivial)) (@e7 _ _ _ (@p7 _ _ _ _ (@x8 _ _ _ _ _ _ _ (pv 4) (@c5 _ _ _ _ _ (@an8 _ _ _ _ _ rfl B.sum (@c5 _ _ _ _ _ (pv 6) (@c6 _) (by rfl)) (by rfl) (by rfl)) (@c6 _) (by rfl)) (by rfl) (by rfl) (by rfl) (by rfl) (by rfl)) (by rfl)))) (by intro _;rfl)) (@e7 _ _ _ (@l5 _ _ _ _ (@G9 _ _ _ _ _ _ _ C1 (pv 4) (pv 1) (fun _ _=>rfl)))))),?_⟩;refine ⟨_,rfl,_,rfl,_,rfl,l,m,n,rfl,by omega,by omega,fun ra H1 hra s1 h1=> ?_⟩;obtain ⟨rs,ers⟩:∃rs,rs=o5 l m n:=⟨_,rfl⟩;rw[<-ers] at h1;refine ⟨(show 1<=sizeLine by decide),fun cs hcs=> ?_⟩;have s2:e8 H1 (c9 H1 cs (.lst [V.int 1])):=e8.upd_new hcs;have h2:(c9 H1 cs (.lst [V.int 1])) cs=some (.lst ((D2 (A5 l rs 0)).map V.int)):=c8;have h2r:=s2 _ _ h1;have nrc:ra≠cs:=g6 h1 hcs;generalize (c9 H1 cs (.lst [V.int 1]))=H2 at s2 h2 h2r ⊢;refine ⟨_,rfl,_,_,rfl,rfl,1,(n:Int)+1,rfl,⟨by decide,by decide,by omega,by omega⟩,?_⟩
   have en:((n:Int)+1 - 1).toNat=n:=by omega
   rw[en];refine E8 (lo:=1) (n:=n) (fun i σ H3=>∃v w:Option V,σ=[some (.int (l:Int)),some (.int (n:Int)),some (.int (m:Int)),some (.ref ra),some (.ref cs),v,w]/\H3 cs=some (.lst ((D2 (A5 l rs i)).map V.int))/\i8 cs H2 H3) ⟨none,none,rfl,h2,i8.refl cs H2⟩ ?_ ?_
   · rintro i σ H3 hi ⟨v,w,rfl,h3,kb3⟩;have h3r:=kb3 _ _ h2r nrc
     have lrs:rs.length<=40:=by rw[ers];exact dt6 (ah3 l m n) hn
     have prs:∀d∈rs,1<=d:=fun d hd=>by rw[ers] at hd;exact (D0 hd).1
     have e1:(1:Int)+(i:Int)=((i+1:Nat):Int):=by omega
     rw[e1]
     refine ⟨_,rfl,ra,rfl,⟨_,i5.of h3r⟩,bi2 (K:=K) (a:=ra) (xs:=(D2 rs).map V.int) (fun j ys σ H4=>∃u:Option V,σ=[u,some (.int ((i+1:Nat):Int)),some (.int (l:Int)),some (.ref cs)]/\H4=H3/\ys=(D2 (((rs.take j).filter fun d=>decide (d<=i+1)).map fun d=>w6 (i+1) l (d - 1)*(A5 l rs i).getD (i+1 - d) 0)).map V.int)
       ⟨none,rfl,rfl,by simp [D2]⟩ (fun j ys σ H4 _ zz=>by obtain ⟨_,_,e,_⟩:=zz;rw[e];exact i5.of h3r) ?_ ?_⟩
     · rintro j x ys σ H4 hj ⟨u,rfl,rfl,rfl⟩;obtain ⟨d,hd,rfl⟩:=di4 hj;have d1:=prs d (dt2 hd);have jl:j < rs.length:=(ds3.mp hd).1;refine ⟨_,rfl,_,rfl,_,_,rfl,rfl,_,rfl,M6 (fun h1=> ?_) (fun h1=> ?_)⟩
       · have dn:d<=i+1:=by
           have:=of_decide_eq_true h1;omega
         refine ⟨_,rfl,_,rfl,_,rfl,i+1,d,l,rfl,d1,dn,by omega,by omega,_,rfl,_,rfl,_,rfl,_,_,rfl,rfl,cs,_,_,_,rfl,rfl,i5.of h3,cb1 (xs:=A5 l rs i) (by omega) (by rw[K8];omega),_,_,rfl,rfl,⟨?_,?_⟩,?_⟩
         · rw[ee1];exact dw0 (ap2 (dt6 (ec7 (show i+1<=40 by omega) hl) (by decide)) _) (bt0 (d - 1) (by omega) (by decide))
         · rw[ee1];exact dw0 (aw7 hl lrs prs i (by omega) _) (bt0 _ (by omega) (by decide))
         · have lj:((rs.take j).filter fun d=>decide (d<=i+1)).length<=40:=dt6 (ee6 _ _) (by rw[du1];omega);refine ⟨o9 (by unfold D2;rw[ds1,ds1,ds1];omega),_,rfl,rfl,?_⟩;rw[i7 hd,ed2,ec5 (p:=fun d=>decide (d<=i+1)) (decide_eq_true dn),ef2];unfold D2;rw[dt1,dt1,dt1]
           congr 1
           have ed:((((i+1:Nat):Int)) - (d:Int)).toNat=i+1 - d:=by omega
           show [V.int (((w6 (i+1) l (d - 1):Nat):Int)*(((A5 l rs i).getD ((((i+1:Nat):Int)) - (d:Int)).toNat 0:Nat):Int))]=[V.int ((w6 (i+1) l (d - 1)*(A5 l rs i).getD (i+1 - d) 0:Nat):Int)];rw[ed,dy6]
       · have dn:¬d<=i+1:=fun z=>h1 (decide_eq_true (by omega))
         refine ⟨_,rfl,rfl,?_⟩;rw[i7 hd,ed2,ec6 (p:=fun d=>decide (d<=i+1)) (by simpa using dn),ef2,du8]
     · rintro ys σ H4 ⟨u,rfl,rfl,rfl⟩ D hD
       have ll:((D2 rs).map V.int).length=rs.length:=by unfold D2;rw[ds1,ds1]
       rw[ll,du7]
       obtain ⟨ws,ews⟩:∃ws,ws=(rs.filter fun d=>decide (d<=i+1)).map fun d=>w6 (i+1) l (d - 1)*(A5 l rs i).getD (i+1 - d) 0:=⟨_,rfl⟩
       rw[<-ews];have s5:e8 H4 (c9 H4 D (.lst ((D2 ws).map V.int))):=e8.upd_new hD;have h5:(c9 H4 D (.lst ((D2 ws).map V.int))) D=some (.lst ((D2 ws).map V.int)):=c8;generalize (c9 H4 D (.lst ((D2 ws).map V.int)))=H5 at s5 h5 ⊢;have h5c:=s5 _ _ h3;refine ⟨_,rfl,.inl ⟨rfl,_,i5.of h5c⟩,_,rfl,D,_,rfl,i5.of h5,cs,_,_,rfl,rfl,h5c,o9 (by unfold D2;rw[ds1,ds1,K8];omega),?_⟩;refine ⟨_,_,rfl,?_,fun x o hx hn=>by rw[g8 hn];exact s5 x o (kb3 x o hx hn)⟩;rw[c8,bf1,ews];show some (HO.lst (_++[V.int ((al4 l rs (A5 l rs i) (i+1):Nat):Int)]))=some (HO.lst ((D2 (A5 l rs i++[al4 l rs (A5 l rs i) (i+1)])).map V.int));unfold D2;rw[dt1,dt1];rfl
   · rintro σ H3 ⟨v,w,rfl,h3,kb3⟩;have s3:e8 H H3:=(s1.trans s2).kb kb3 (s1.free hcs);refine ⟨_,rfl,_,rfl,cs,_,_,_,rfl,rfl,i5.of h3,cb1 (xs:=A5 l rs n) (by omega) (by rw[K8];omega),?_⟩;rw[dx5,ers];exact q H3 s3
theorem bj7 {l m n:Nat}(hl:l<=40)(hn:n<=40):p0 l m n<=1600^40:=
 dt6 (aw7 hl (dt6 (ah3 l m n) hn) (fun _ hd=>(D0 hd).1) n hn n) (ei0 (by decide) hn)
theorem bt1 {f:Nat->Nat}{c:Nat}:∀{ks:List Nat},(∀k∈ks,f k<=c)->j8 f ks<=c^ks.length
 |[],_=>ds4 _
 |k::ks,h=>by
  show f k*j8 f ks<=c^(ks.length+1);rw[ej6,dy8];exact ec7 (bt1 fun x hx=>h x (ds6 _ hx)) (h k ds5)
theorem dc1 (i:Nat)(h:i<=40){n:Nat}(hn:17600 < n):(1600^40)^i < 2^n:=by
 rw[<-Nat.pow_mul];have a:1600^(40*i)<=(2^11)^(40*i):=Nat.pow_le_pow_left (by decide) _;rw[<-Nat.pow_mul] at a;exact dw0 a (Nat.pow_lt_pow_right (by decide) (by omega))
theorem ap3 {p:List Int}(t:o6 p){rs:List (List Int)}(up:y8 p p.length rs){ks:List Nat}(nk:ks.Nodup)(h1:∀k∈ks,∃r∈rs,r.length=k)(h2:∀r∈rs,r.length∈ks){f:Nat->Nat}(hf:∀u,l7 rs u=0->f u=1):
   j8 f ks=j8 f ((dv4 p.length).map (· +1)):=by
 refine af0 nk ?_ (fun k hk=> ?_) fun u hu hn=> ?_
 · exact List.Pairwise.map (fun x:Nat=>x+1) (fun a b h=>by omega) (eb2 (n:=p.length))
 · obtain ⟨r,hr,rfl⟩:=h1 k hk;obtain ⟨y,L,hy,pr,er,_⟩:=up.ring r hr
   have b:=I0 t hy (m:=L) fun i i0 i1=>pr.least i i0 i1
   have:=pr.pos;rw[er,n9];exact dt0.mpr ⟨L - 1,dv0.mpr (by omega),by omega⟩
 · refine hf u ?_
   by_cases z:l7 rs u=0
   · exact z
   · obtain ⟨r,hr,rfl⟩:=ar1 z;exact absurd (h2 r hr) hn
noncomputable def R4 (p:List Int)(m:Nat):Nat:=j8 (fun l=>p0 l m (l7 (j9 p p.length) l)) ((dv4 p.length).map (· +1))
def aj2:Sp:=fun vs H Q _=>∃(a:Addr) (p:List Int) (m:Nat),vs=[.ref a,.int (m:Int)]/\R8 H a p/\1<=m/\∀H':Hp,e8 H H'->Q (.int ((R4 p m:Nat):Int)) H'
theorem G8:l8 ["p","m","by_length","many","length"] ["p","m"] (j5 S9):=by rfl'
theorem as6 {f:Addr}{fd:FuncData}(F:x6 K "how_many_roots" "how_many_roots" S9 f fd)(B:Bl mg)(zxz:j7 P w K mg base "must_be_turn" 3 ["thing"] ao5)(zyz:j7 P w K mg base "must_be_from_one" 2 ["number"] ar7)(zzx:j7 P w K mg base "sort_by_length" 1 ["rings"] ab5)(zyx:j7 P w K mg base "walk_rings" 2 ["p"] Q7)(zny:j7 P w K mg base "count_joins" 3 ["length","many","m"] bf2):o7 P w K mg base x5 4 f fd ["p","m"] aj2:=by
 refine F.ok G8 (fun vs H Q E h=> ?_) (fun cdv A outer s H vs Q E hr h=> ?_)
 · obtain ⟨a,p,m,rfl,⟨ha,tp,lp⟩,m1,q⟩:=h;rfl
 · obtain ⟨a,p,m,rfl,⟨ha,tp,lp⟩,m1,q⟩:=h;have zry:l6 3 _:=hr.mono (by decide);have zty:l6 2 _:=hr.mono (by decide);have zwy:l6 1 _:=hr.mono (by decide);have zux:l6 2 _:=hr.mono (by decide);have zhy:l6 3 _:=hr.mono (by decide);have hu:=X1 hr;refine ⟨_,@c7 _ _ _ _ _ (@p7 _ _ _ _ (@i4 _ _ _ _ _ _ _ _ _ _ zxz zry (@c5 _ _ _ _ _ (pv 0) (@c6 _) (by rfl)) (by rfl) (by decide) (by rfl) (by rfl)) (by rfl)) (@c7 _ _ _ _ _ (@p7 _ _ _ _ (@i4 _ _ _ _ _ _ _ _ _ _ zyz zty (@c5 _ _ _ _ _ (pv 1) (@c6 _) (by rfl)) (by rfl) (by decide) (by rfl) (by rfl)) (by rfl)) (@c7 _ _ _ _ _ (@i6 _ _ (2) _ _ _ _ G8.nd rfl (Or.inl rfl) (@i4 _ _ _ _ _ _ _ _ _ _ zzx zwy (@c5 _ _ _ _ _ (@i4 _ _ _ _ _ _ _ _ _ _ zyx zux (@c5 _ _ _ _ _ (pv 0) (@c6 _) (by rfl)) (by rfl) (by decide) (by rfl) (by rfl)) (@c6 _) (by rfl)) (by rfl) (by decide) (by rfl) (by rfl)) (by rfl) (by trivial)) (@c7 _ _ _ _ _ (@i6 _ _ (3) _ _ _ _ G8.nd rfl (Or.inl rfl) (@g7 _ _ _ _) (by rfl) (by trivial)) (@c7 _ _ _ _ _ (@l9 _ _ _ _ _ _ _ _ PassesOwn.never rfl (@bd6 _ _ _ _ (pv 2)) (@i9 _ _ (4) _ G8.nd rfl (Or.inl rfl) (by trivial)) (@e7 _ _ _ (@i6 _ _ (3) _ _ _ _ G8.nd rfl (Or.inl rfl) (@j6 _ _ _ _ _ _ _ _ ar5 (pv 3) (@i4 _ _ _ _ _ _ _ _ _ _ zny zhy (@c5 _ _ _ _ _ (pv 4) (@c5 _ _ _ _ _ (@y7 _ _ _ _ _ B.len (@c5 _ _ _ _ _ (@ah9 _ _ _ _ _ _ hu (pv 2) (pv 4) (fun _ _=>rfl)) (@c6 _) (by rfl)) (by rfl) (by rfl)) (@c5 _ _ _ _ _ (pv 1) (@c6 _) (by rfl)) (by rfl)) (by rfl)) (by rfl) (by decide) (by rfl) (by rfl))) (by rfl) (by trivial))) (by intro _;rfl)) (@e7 _ _ _ (@l5 _ _ _ _ (pv 3))))))),?_⟩;refine ⟨_,rfl,a,p,rfl,⟨ha,tp,lp⟩,fun H1 s1=> ?_⟩;refine ⟨_,rfl,(m:Int),rfl,by omega,?_⟩;refine ⟨_,rfl,a,p,rfl,⟨s1 a _ ha,tp,lp⟩,fun l as rs H2 hl s12 h2l rows up fa nda nla=> ?_⟩;have cl:=ad7 up;have fl:=X9 tp up;refine ⟨l,as,rs,rfl,h2l,rows,by omega,fun d es H3 hd s23 h3d bl les fre=> ?_⟩;have s03:=(s1.trans s12).trans s23;have hd0:H d=none:=(s1.trans s12).free hd;refine ⟨_,rfl,d,o8 es,rfl,h3d,fun o=> ?_⟩;have s4:e8 H (c9 H3 d (.frz o (.dK (o8 es)))):=s03.upd_r hd0;have h4d:(c9 H3 d (.frz o (.dK (o8 es)))) d=some (.frz o (.dK (o8 es))):=c8
   have kp:∀c,c≠d->(c9 H3 d (.frz o (.dK (o8 es)))) c=H3 c:=fun c hc=>g8 hc
   generalize (c9 H3 d (.frz o (.dK (o8 es))))=H4 at s4 h4d kp ⊢
   have lkv:(o8 es).length=es.length:=by unfold o8;rw[ds1]
   have fb:∀e∈es,e.1<=40/\l7 rs e.1<=40:=fun e he=>by
     obtain ⟨r,hr',lr⟩:=bl.key e.1 (dt0.mpr ⟨e,he,rfl⟩);obtain ⟨y,L,hy,pr,er,_⟩:=up.ring r hr'
     have b:=I0 tp hy (m:=L) fun i i0 i1=>pr.least i i0 i1
     rw[er,n9] at lr;have:l7 rs e.1<=rs.length:=eh4;exact ⟨by omega,by omega⟩
   refine ak1 (fun i σ H5=>∃(v:Option V),σ=[some (.ref a),some (.int (m:Int)),some (.ref d),some (.int ((j8 (fun l=>p0 l m (l7 rs l)) ((es.take i).map (·.1)):Nat):Int)),v]/\e8 H4 H5)
     ⟨none,rfl,e8.refl H4⟩ (fun i σ H5 _ ⟨_,_,e⟩=>e _ _ h4d) ?_ ?_
   · rintro i k v σ H5 hi ⟨v4,rfl,s5⟩;unfold o8 at hi;rw[ds9] at hi
     cases hE:es[i]? with
     |none=>rw[hE] at hi;cases hi
     |some e=>
      rw[hE] at hi;cases hi;have he:=dt2 hE;have il:i < es.length:=(ds3.mp hE).1;obtain ⟨cs,hcs,rcs⟩:=bl.row e he;obtain ⟨le40,lc40⟩:=fb e he
      have lcs:cs.length=l7 rs e.1:=by
        rw[rcs.1];unfold w9 l7;exact (eh2 ..).symm
      have h5x:H5 e.2=some (.lst (cs.map V.ref)):=s5 _ _ (by rw[kp _ (bl.nd e he)];exact hcs)
      have pb:j8 (fun l=>p0 l m (l7 rs l)) ((es.take i).map (·.1))<=(1600^40)^i:=by
        have:=bt1 (f:=fun l=>p0 l m (l7 rs l)) (c:=1600^40) (ks:=(es.take i).map (·.1)) fun k hk=>by
          obtain ⟨e1,he1,rfl⟩:=dt0.mp hk;obtain ⟨b1,b2⟩:=fb e1 (dy5 he1);exact bj7 b1 b2
        rw[ds1,du1,el5 (by omega)] at this;exact this
      obtain ⟨F0,hF0⟩:∃F0,F0=j8 (fun l=>p0 l m (l7 rs l)) ((es.take i).map (·.1)):=⟨_,rfl⟩;rw[<-hF0] at pb ⊢;refine ⟨_,rfl,_,rfl,_,rfl,_,rfl,d,.ref e.2,rfl,.inl ⟨o8 es,Sum.inl (e.1:Int),.inr ⟨o,s5 _ _ h4d⟩,rfl,(bb1 bl.nk he).symm⟩,e.2,_,rfl,.inl (i5.of h5x),_,rfl,e.1,cs.length,m,?_,le40,by omega,fun H6 s6=> ?_⟩
      · show [V.int (e.1:Int),V.int (((cs.map V.ref).length:Nat):Int),V.int (m:Int)]++[]=_;rw[ds1];rfl
      refine ⟨_,_,rfl,rfl,⟨?_,?_⟩,some (.int (e.1:Int)),?_,s5.trans s6⟩
      · rw[ee1];exact dw0 pb (dc1 i (by omega) (by decide))
      · rw[ee1];exact dw0 (bj7 le40 (by omega)) (bt0 40 (ds4 _) (by decide))
      · rw[i7 hE,dt1,show ([e].map (·.1):List Nat)=[e.1] from rfl,ak2,<-hF0,<-lcs,dy6];rfl
   · rintro σ H5 ⟨v,rfl,s5⟩;rw[lkv,du7,ap3 tp up bl.nk bl.key bl.all (f:=fun l=>p0 l m (l7 rs l)) fun u hu=>by show p0 u m (l7 rs u)=1;rw[hu];rfl];have er:rs=j9 p p.length:=up.eq;rw[er];exact ⟨_,rfl,q _ (s4.trans s5)⟩
end
end My
namespace My
open PySem L2 Mth
section
variable {P:Program} {w:World} {K:PySem.W.Frag} {mg:Str->Option Value} {base:Heap}
theorem ab7:∀n,n < 13->∀k∈n5 12 n n,(∀x∈k,1<=x)/\k.Pairwise (· ≥ ·)/\k.sum=(n:Int)/\C7 k*zK k k.length=E9 n:=by decide+kernel
theorem au4 {n:Nat}(h:n<=12){k:List Int}(hk:k∈n5 12 n n):R9 k:=by
 obtain ⟨a,b,c,_⟩:=ab7 n (by omega) k hk;exact ⟨a,b,by omega⟩
theorem bx5:∀n,n < 13->((n5 12 n n).map C7).sum=E9 n:=by decide+kernel
def B8 (k:List Int)(l:Nat):Nat:=k.countP fun x=>decide (x.toNat=l)
def cf7 (c:Nat->Nat)(m:Nat):Prop:=∀l,1<=l->1<=c l->∀d,M7 l m d->d∣c l
noncomputable def Z8 (k:List Int)(m:Nat):Bool:=@decide (cf7 (B8 k) m) (Classical.propDecidable _)
noncomputable def cx6 (n m:Nat):Nat:=(((n5 12 n n).filter fun k=>Z8 k m).map C7).sum
theorem ct9 {k:List Int}{l:Nat}(h:1<=B8 k l):∃x∈k,x.toNat=l:=by
 unfold B8 at h;obtain ⟨x,hx,e⟩:=el9.mp h;exact ⟨x,hx,of_decide_eq_true e⟩
def as0 (n m:Nat):Nat:=(((n5 12 n n).filter fun k=>k.all fun l=>decide (m%l.toNat=0)).map C7).sum
def G12:List Nat:=[1,2,4,8].flatMap fun a=>[1,3,9].flatMap fun b=>[1,5].flatMap fun c=>[1,7].flatMap fun d=>[1,11].map fun e=>a*(b*(c*(d*e)))
theorem dc2:∀g∈G12,∀n,n < 13->as0 n g=p0 1 g n:=by decide+kernel
theorem dm8:∀d,d < 9->8%d=0->d∈[1,2,4,8]:=by decide+kernel
theorem dm9:∀d,d < 10->9%d=0->d∈[1,3,9]:=by decide+kernel
theorem dn0:∀d,d < 6->5%d=0->d∈[1,5]:=by decide+kernel
theorem dn1:∀d,d < 8->7%d=0->d∈[1,7]:=by decide+kernel
theorem di5:∀d,d < 12->11%d=0->d∈[1,11]:=by decide+kernel
theorem S1 {m c:Nat}(h:0 < c):du0 m c < c+1/\c%du0 m c=0:=⟨Nat.lt_succ_of_le (ef5 h (ea2 _ _)),eh1 (ea2 _ _)⟩
theorem cx7 (m:Nat):du0 m 27720∈G12:=by
 rw[show (27720:Nat)=8*(9*(5*(7*11))) from rfl,ef8.gcd_mul m (by decide),ef8.gcd_mul m (by decide),ef8.gcd_mul m (by decide),ef8.gcd_mul m (by decide)];unfold G12;refine dx7.mpr ⟨_,dm8 _ (S1 (m:=m) (by decide)).1 (S1 (by decide)).2,?_⟩;refine dx7.mpr ⟨_,dm9 _ (S1 (m:=m) (by decide)).1 (S1 (by decide)).2,?_⟩;refine dx7.mpr ⟨_,dn0 _ (S1 (m:=m) (by decide)).1 (S1 (by decide)).2,?_⟩;refine dx7.mpr ⟨_,dn1 _ (S1 (m:=m) (by decide)).1 (S1 (by decide)).2,?_⟩;exact dt0.mpr ⟨_,di5 _ (S1 (m:=m) (by decide)).1 (S1 (by decide)).2,rfl⟩
theorem bb7:∀d,d < 13->1<=d->27720%d=0:=by decide+kernel
theorem cx9 {m d:Nat}(h1:1<=d)(h2:d<=12):d∣du0 m 27720↔d∣m:=⟨fun h=>Nat.dvd_trans h (ef9 _ _),fun h=>Nat.dvd_gcd h (eb5 (bb7 d (by omega) h1))⟩
theorem cu0 {m n:Nat}(h:n<=12):o5 1 (du0 m 27720) n=o5 1 m n:=by
 unfold o5
 refine ej8 fun d hd=> ?_
 obtain ⟨i,hi,rfl⟩:=dt0.mp hd;have:=dv0.mp hi;rw[ed6];have e:=cx9 (m:=m) (d:=i+1) (by omega) (by omega)
 by_cases z:i+1∣m
 · rw[decide_eq_true (eo0 z),decide_eq_true (eo0 (e.mpr z))]
 · rw[decide_eq_false (p:=du0 (i+1) (du0 m 27720)=i+1) fun y=>z (e.mp (by rw[<-y];exact ea2 _ _)),decide_eq_false (p:=du0 (i+1) m=i+1) fun y=>z (by rw[<-y];exact ea2 _ _)]
theorem dc3 {m n:Nat}(h:n<=12):as0 n (du0 m 27720)=as0 n m:=by
 unfold as0
 congr 2
 refine ej8 fun k hk=> ?_
 obtain ⟨a,_,c,_⟩:=ab7 n (by omega) k hk
 have e:∀x∈k,(du0 m 27720%x.toNat=0↔m%x.toNat=0):=fun x hx=>by
   have x1:=a x hx;have x2:=V5 a x hx;have e:=cx9 (m:=m) (d:=x.toNat) (by omega) (by omega);exact ⟨fun y=>eh1 (e.mp (eb5 y)),fun y=>eh1 (e.mpr (eb5 y))⟩
 rw[eg7,ec2,ec2];exact ⟨fun y x hx=>decide_eq_true ((e x hx).mp (of_decide_eq_true (y x hx))),fun y x hx=>decide_eq_true ((e x hx).mpr (of_decide_eq_true (y x hx)))⟩
theorem bt2 {m n:Nat}(h:n<=12):p0 1 m n=as0 n m:=by
 rw[<-dc3 h,dc2 _ (cx7 m) n (by omega)];unfold p0;rw[cu0 h]
theorem cn7 {t ks:List Int}{rs:List (List Int)}(al:X3 t rs)(fl:rs.flatten=n6 0 t.length)(lens:rs.map (fun r=>(r.length:Int))=ks){l:Nat}(l1:1<=l):aw1 t l=B8 ks l:=by
 have tt:=aa7 al fl;have a:=au1 al fl l;have b:=af1 tt (J4 tt) l;rw[a] at b;have c:l7 rs l=l7 (j9 t t.length) l:=eb7 (by omega) b;unfold aw1 B8;rw[<-c,<-lens,dz0];unfold l7
 refine dz3 fun r _=> ?_
 simp
theorem bt3 {c c':Nat->Nat}{m:Nat}(h:∀l,1<=l->c l=c' l)(x:cf7 c m):cf7 c' m:=fun l l1 hl d hd=>by
 rw[<-h l l1] at hl ⊢;exact x l l1 hl d hd
theorem cf8 {H:Hp}{o:Addr}{t ks:List Int}{m:Nat}(tt:o6 t)(h:cn3 H o t m)(e:∀l,1<=l->aw1 t l=B8 ks l):∃x r,H o=some (.tup (V.str x::r))/\decide (V.str x=V.str "root")=Z8 ks m:=by
 rcases h with ⟨u,r,h1,_,tr,_,pw,_⟩|⟨l,d,h1,b⟩
 · refine ⟨_,_,h1,?_⟩;rw[decide_eq_true rfl];unfold Z8;exact (@decide_eq_true _ (Classical.propDecidable _) (bt3 e fun l _ _ d hd=>ce4 tr pw hd)).symm
 · refine ⟨_,_,h1,?_⟩;rw[decide_eq_false (by intro z;injection z with z;exact absurd z (by decide))];unfold Z8;refine (@decide_eq_false _ (Classical.propDecidable _) fun z=> ?_).symm
   have l1:1<=l:=by
     rcases eb1 l with y|y
     · subst y;have:=b.some;unfold aw1 at this;rw[bp9 tt] at this;omega
     · exact y
   exact b.bad (bt3 (fun l hl=>(e l hl).symm) z l l1 b.some d b.right)
def bt4:Sp:=fun vs H Q _=>∃n m:Nat,vs=[.int (n:Int),.int (m:Int)]/\n<=12/\1<=m/\m<=1000000000000000000000000000000/\∀H':Hp,e8 H H'->Q (.int ((cx6 n m:Nat):Int)) H'
theorem ad9:l8 ["n","m","kinds"] ["n","m"] (j5 V1):=by rfl'
theorem ae6:(["kind","m"]:List Str).Nodup:=by decide+kernel
theorem aw8 {f:Addr}{fd:FuncData}(F:x6 K "how_many_have" "how_many_have" V1 f fd)(B:Bl mg)(zwx:j7 P w K mg base "kinds_of" 14 ["n"] Y1)(zyz:j7 P w K mg base "must_be_from_one" 2 ["number"] ar7)(zlz:j7 P w K mg base "root_told" 5 ["p","m"] ca9)(zvy:j7 P w K mg base "one_of_kind" 4 ["kind"] ar8)(zwz:j7 P w K mg base "how_many_of" 5 ["kind"] ar9):o7 P w K mg base x5 15 f fd ["n","m"] bt4:=by
 refine F.ok ad9 (fun vs H Q E h=> ?_) (fun cdv A outer s H vs Q E hr h=> ?_)
 · obtain ⟨n,m,rfl,hn,m1,m2,q⟩:=h;rfl
 · obtain ⟨n,m,rfl,hn,m1,m2,q⟩:=h;have zsx:l6 14 _:=hr.mono (by decide);have zty:l6 2 _:=hr.mono (by decide);have zfz:l6 5 _:=hr.mono (by decide);have zoz:l6 4 _:=hr.mono (by decide);have zsy:l6 5 _:=hr.mono (by decide);refine ⟨_,@c7 _ _ _ _ _ (@i6 _ _ (2) _ _ _ _ ad9.nd rfl (Or.inl rfl) (@i4 _ _ _ _ _ _ _ _ _ _ zwx zsx (@c5 _ _ _ _ _ (pv 0) (@c6 _) (by rfl)) (by rfl) (by decide) (by rfl) (by rfl)) (by rfl) (by trivial)) (@c7 _ _ _ _ _ (@p7 _ _ _ _ (@i4 _ _ _ _ _ _ _ _ _ _ zyz zty (@c5 _ _ _ _ _ (pv 1) (@c6 _) (by rfl)) (by rfl) (by decide) (by rfl) (by rfl)) (by rfl)) (@e7 _ _ _ (@l5 _ _ _ _ (@an8 _ _ _ _ _ rfl B.sum (@c5 _ _ _ _ _ (@bd4 _ _ _ _ _ _ _ _ _ _ _ (["kind","m"]) (1) ([1]) rfl .of (@t5 _ _ _ _ (pv 2)) (fun _ _ _ _ _=>@i9 _ _ (0) _ ae6 rfl (Or.inl rfl) (by trivial)) (fun _ _ _ _ _=>@av0 _ _ _ (@t6 _ _ _ _ _ _ _ _ U0 (@G9 _ _ _ _ _ _ (df3 K) df4 (@i4 _ _ _ _ _ _ _ _ _ _ zlz zfz (@c5 _ _ _ _ _ (@i4 _ _ _ _ _ _ _ _ _ _ zvy zoz (@c5 _ _ _ _ _ (pv 0) (@c6 _) (by rfl)) (by rfl) (by decide) (by rfl) (by rfl)) (@c5 _ _ _ _ _ (pv 1) (@c6 _) (by rfl)) (by rfl)) (by rfl) (by decide) (by rfl) (by rfl)) (@g7 _ _ _ _) (fun _ _=>rfl)) (@bm6 _ _ _ _) (q5 _))) (fun _ _ _ _ _=>(@i4 _ _ _ _ _ _ _ _ _ _ zwz zsy (@c5 _ _ _ _ _ (pv 0) (@c6 _) (by rfl)) (by rfl) (by decide) (by rfl) (by rfl))) (by intro _;rfl)) (@c6 _) (by rfl)) (by rfl) (by rfl))))),?_⟩;refine ⟨_,rfl,n,rfl,hn,fun L as H1 hL s1 h1 rows fr nda nla=> ?_⟩;refine ⟨_,rfl,(m:Int),rfl,by omega,?_⟩;obtain ⟨rs,ers⟩:∃rs,rs=n5 12 n n:=⟨_,rfl⟩
   have lrs:rs.length<=77:=by rw[ers];exact aa8 12 (by decide) n (by omega) n (by omega)
   have hk:∀k∈rs,R9 k:=fun k hk=>au4 hn (by rw[<-ers];exact hk)
   rw[<-ers] at rows
   refine ⟨_,rfl,L,rfl,⟨_,i5.of h1⟩,bi2 (K:=K) (a:=L) (xs:=as.map V.ref) (fun j ys σ H2=>∃v:Option V,σ=[v,some (.int (m:Int))]/\e8 H1 H2/\ys=(D2 (((rs.take j).filter fun k=>Z8 k m).map C7)).map V.int)
     ⟨none,rfl,e8.refl H1,by simp [D2]⟩ (fun j ys σ H2 _ zz=>by obtain ⟨_,_,s,_⟩:=zz;exact i5.of (s _ _ h1)) ?_ ?_⟩
   · rintro j x ys σ H2 hj ⟨v,rfl,s2,rfl⟩
     obtain ⟨e,he,rfl⟩:∃a,as[j]? =some a/\x=V.ref a:=by
       rw[ds9] at hj
       cases e:as[j]? with
       |none=>rw[e] at hj;cases hj
       |some a=>rw[e] at hj;exact ⟨a,rfl,(Option.some.inj hj).symm⟩
     have jl:j < rs.length:=by rw[<-rows.1];exact (ds3.mp he).1
     obtain ⟨k,hk'⟩:∃k,rs[j]? =some k:=⟨_,ds2 jl⟩;have kk:=hk k (dt2 hk');have h2e:=s2 _ _ (rows.2 j e k he hk');refine ⟨_,rfl,e,k,rfl,h2e,kk,fun l t qs H3 hl s3 h3l al fl lens tl=> ?_⟩;refine ⟨_,rfl,l,t,m,rfl,⟨h3l,aa7 al fl,tl⟩,m1,m2,fun o H4 s4 ti _=> ?_⟩;obtain ⟨x,r,ho,hx⟩:=cf8 (aa7 al fl) ti (fun l l1=>cn7 al fl lens l1);refine ⟨o,_,0,_,rfl,rfl,T2.of ho,K1 (j:=0) rfl,rfl,?_⟩;rw[hx];have lj:((rs.take j).filter fun k=>Z8 k m).length<=77:=dt6 (ee6 _ _) (by rw[du1];omega);have s24:=s3.trans s4;refine ⟨_,rfl,M6 (fun c=> ?_) (fun c=> ?_)⟩
     · refine ⟨_,rfl,e,k,rfl,s24 _ _ h2e,kk,fun H5 s5=> ?_⟩;refine ⟨o9 (by unfold D2;rw[ds1,ds1,ds1];omega),_,rfl,s2.trans (s24.trans s5),?_⟩;rw[i7 hk',ed2,ec5 (p:=fun k=>Z8 k m) c,ef2];unfold D2;rw[dt1,dt1,dt1];rfl
     · refine ⟨_,rfl,s2.trans s24,?_⟩;rw[i7 hk',ed2,ec6 (p:=fun k=>Z8 k m) c,ef2,du8]
   · rintro ys σ H2 ⟨v,rfl,s2,rfl⟩ D hD;rw[ds1,rows.1,du7];have s3:e8 H2 (c9 H2 D (.lst ((D2 ((rs.filter fun k=>Z8 k m).map C7)).map V.int))):=e8.upd_new hD;refine ⟨D,_,rfl,i5.of c8,?_⟩;rw[bf1,ers];exact q _ (s1.trans (s2.trans (by rw[ers] at s3;exact s3)))
theorem cn8 {n:Nat}{x:Int}(h0:0<=x)(h1:x < (n:Int)):D7 (n6 0 n) x 1:=
 ⟨eo2,(show nx (n6 0 n) x=x from da0 h0 h1),fun i a b=>by omega⟩
theorem bb8 (n:Nat):o6 (n6 0 n):=(at5 (List.Perm.refl _)).1
theorem cf9 {n m:Nat}:R4 (n6 0 n) m=p0 1 m n:=by
 have tt:=bb8 n
 have cnt:∀l,1<=l->l7 (j9 (n6 0 n) (n6 0 n).length) l=if l=1 then n else 0:=fun l l1=>by
   have b:=af1 tt (J4 tt) l;rw[t8] at b;rw[t8]
   have c:((dv4 n).map fun (i:Nat)=>(G0 (n6 0 n) (i:Int):Int))=dw8 n 1:=by
     refine List.ext_getElem (by simp) fun i h1 h2=> ?_
     have hi:i < n:=by simpa using h1
     rw[List.getElem_map,List.getElem_range,List.getElem_replicate,S6 (cn8 (by omega) (by omega))];rfl
   rw[c,List.countP_replicate] at b
   by_cases z:l=1
   · subst z;rw[if_pos rfl];simp at b;exact b.symm
   · rw[if_neg z];rw[if_neg (by simp;omega)] at b
     rcases Nat.mul_eq_zero.mp b.symm with y|y
     · omega
     · exact y
 unfold R4;rw[t8] at cnt ⊢
 cases n with
 |zero=>rfl
 |succ n=>
  rw[ek1,du9];show p0 (0+1) m (l7 _ (0+1))*j8 _ _=_;rw[cnt 1 (by decide),if_pos rfl,U5,ed6];intro u hu;obtain ⟨i,hi,rfl⟩:=dt0.mp hu;obtain ⟨j,_,rfl⟩:=dt0.mp hi;show p0 _ m (l7 _ _)=1;rw[cnt _ (by omega),if_neg (by omega)];rfl
def bf4:Sp:=fun vs H Q _=>∃n m:Nat,vs=[.int (n:Int),.int (m:Int)]/\n<=12/\1<=m/\∀H':Hp,e8 H H'->Q (.int ((as0 n m:Nat):Int)) H'
theorem aw9:l8 ["n","m"] ["n","m"] (j5 V2):=by rfl'
theorem ax0 {f:Addr}{fd:FuncData}(F:x6 K "how_many_home" "how_many_home" V2 f fd)(B:Bl mg)(zx:j7 P w K mg base "must_be_counted" 2 ["n"] af6)(zzz:j7 P w K mg base "how_many_roots" 4 ["p","m"] aj2):o7 P w K mg base x5 5 f fd ["n","m"] bf4:=by
 refine F.ok aw9 (fun vs H Q E h=> ?_) (fun cdv A outer s H vs Q E hr h=> ?_)
 · obtain ⟨n,m,rfl,hn,m1,q⟩:=h;rfl
 · obtain ⟨n,m,rfl,hn,m1,q⟩:=h;have zsz:l6 2 _:=hr.mono (by decide);have zyy:l6 4 _:=hr.mono (by decide);refine ⟨_,@c7 _ _ _ _ _ (@p7 _ _ _ _ (@i4 _ _ _ _ _ _ _ _ _ _ zx zsz (@c5 _ _ _ _ _ (pv 0) (@c6 _) (by rfl)) (by rfl) (by decide) (by rfl) (by rfl)) (by rfl)) (@e7 _ _ _ (@l5 _ _ _ _ (@i4 _ _ _ _ _ _ _ _ _ _ zzz zyy (@c5 _ _ _ _ _ (@ak0 _ _ _ _ _ _ _ rfl B.list B.range (@c5 _ _ _ _ _ (pv 0) (@c6 _) (by rfl)) (by rfl) (by rfl) (by rfl) (by rfl)) (@c5 _ _ _ _ _ (pv 1) (@c6 _) (by rfl)) (by rfl)) (by rfl) (by decide) (by rfl) (by rfl)))),?_⟩;refine ⟨_,rfl,n,rfl,hn,?_⟩;refine ⟨_,rfl,(n:Int),rfl,fun rg hrg=> ?_⟩;have s1:e8 H (c9 H rg (.rng 0 (n:Int))):=e8.upd_new hrg;have h1:(c9 H rg (.rng 0 (n:Int))) rg=some (.rng 0 (n:Int)):=c8;generalize (c9 H rg (.rng 0 (n:Int)))=H1 at s1 h1 ⊢;refine ⟨rg,0,_,rfl,h1,⟨by omega,by omega,by omega,by omega⟩,by omega,fun st hst=> ?_⟩;rw[show ((n:Int) - 0).toNat=n by omega];have s2:e8 H1 (c9 H1 st (.lst ((n6 0 n).map V.int))):=e8.upd_new hst;have h2:(c9 H1 st (.lst ((n6 0 n).map V.int))) st=some (.lst ((n6 0 n).map V.int)):=c8;generalize (c9 H1 st (.lst ((n6 0 n).map V.int)))=H2 at s2 h2 ⊢;refine ⟨_,rfl,st,n6 0 n,m,rfl,⟨h2,bb8 n,by rw[t8];omega⟩,m1,fun H3 s3=> ?_⟩;rw[cf9,bt2 hn];exact q H3 (s1.trans (s2.trans s3))
end
end My
namespace My
open PySem L2 Mth
section
variable {P:Program} {w:World} {K:PySem.W.Frag} {mg:Str->Option Value} {base:Heap}
theorem Q8:l8 ["many","found","k"] ["many"] (j5 Z6):=by rfl'
theorem bf5 {f:Addr}{fd:FuncData}(F:x6 K "_law_product" "_law_product" Z6 f fd)(B:Bl mg):o7 P w K mg base x5 1 f fd ["many"] T0:=by
 refine F.ok Q8 (fun vs H Q E h=> ?_) (fun cdv A outer s H vs Q E hr h=> ?_)
 · obtain ⟨n,rfl,hn,q⟩:=h;rfl
 · obtain ⟨n,rfl,hn,q⟩:=h;refine ⟨_,@c7 _ _ _ _ _ (@i6 _ _ (1) _ _ _ _ Q8.nd rfl (Or.inl rfl) (@g7 _ _ _ _) (by rfl) (by trivial)) (@c7 _ _ _ _ _ (@l9 _ _ _ _ _ _ _ _ PassesOwn.never rfl (@K5 _ _ _ _ _ _ _ (by rfl) B.range (@c5 _ _ _ _ _ (@g7 _ _ _ _) (@c5 _ _ _ _ _ (@j6 _ _ _ _ _ _ _ _ x3 (pv 0) (@g7 _ _ _ _)) (@c6 _) (by rfl)) (by rfl)) (by rfl) (by rfl)) (@i9 _ _ (2) _ Q8.nd rfl (Or.inl rfl) (by trivial)) (@e7 _ _ _ (@i6 _ _ (1) _ _ _ _ Q8.nd rfl (Or.inl rfl) (@j6 _ _ _ _ _ _ _ _ C4 (pv 1) (pv 2)) (by rfl) (by trivial))) (by intro _;rfl)) (@e7 _ _ _ (@l5 _ _ _ _ (pv 1)))),?_⟩;refine ⟨_,rfl,_,_,rfl,rfl,1,(n:Int)+1,rfl,⟨by decide,by decide,by omega,by omega⟩,?_⟩
   have en:((n:Int)+1 - 1).toNat=n:=by omega
   rw[en];refine E8 (lo:=1) (n:=n) (fun i σ H2=>∃v2:Option V,σ=[some (.int (n:Int)),some (.int ((E9 i:Nat):Int)),v2]/\H2=H) ⟨none,rfl,rfl⟩ ?_ ?_
   · rintro i σ H2 hi ⟨v2,rfl,rfl⟩
     have e64:(2:Int)^64=18446744073709551616:=by decide
     refine ⟨_,rfl,_,rfl,_,_,rfl,rfl,.inr ⟨by rw[e64];omega,by rw[e64];omega⟩,some (.int (1+(i:Int))),?_,rfl⟩
     have e:((E9 i:Nat):Int)*(1+(i:Int))=((E9 (i+1):Nat):Int):=by
       show _=((E9 i*(i+1):Nat):Int);rw[dy6];congr 1;omega
     rw[<-e];rfl
   · rintro σ H2 ⟨v2,rfl,rfl⟩;exact ⟨_,rfl,q⟩
end
end My
namespace My
open PySem L2 Mth
section
variable {P:Program} {w:World} {K:PySem.W.Frag} {mg:Str->Option Value} {base:Heap}
theorem x9 {H H':Hp}{g:Addr}{c:Nat}(h:x4 H g c)(s:e8 H H'):x4 H' g c:=by
 obtain ⟨x,y,z,e1,e2⟩:=h;exact ⟨x,y,z,s _ _ e1,e2⟩
theorem E3 {H:Hp}{g b:Addr}{c:Nat}(h:x4 H g c)(hb:H b=none):b≠g:=by
 obtain ⟨x,y,z,e1,e2⟩:=h
 exact fun e=>by rw[e,e1] at hb;cases hb
theorem bt5 {H H':Hp}{a so:Addr}{o:HO}(kb:i8 a H H')(h:H so=none):i8 a H (c9 H' so o):=fun x u hx hn=>by
 rw[g8 (g6 hx h)];exact kb x u hx hn
theorem dc4 {H H':Hp}{a so:Addr}(kb:i8 a H H')(ne:so≠a)(h:H' so=none):H so=none:=by
 cases e:H so with
 |none=>rfl
 |some o=>rw[kb so o e ne] at h;cases h
theorem ae0 {H:Hp}{a so:Addr}{o:HO}{c:Nat}(h:x4 H a c)(ne:so≠a):x4 (c9 H so o) a c:=by
 obtain ⟨x,y,z,e1,e2⟩:=h;exact ⟨x,y,z,by rw[g8 ne.symm];exact e1,e2⟩
def OkT (z:Int):Prop:=1<=z/\z<=1000000000000000000000000000000
theorem dn2 {r:Int}(h0:0<=r)(h1:r < 8):∃v:Int,atI (([16,36,60,27720,8,9,25,49]:List Int).map V.int) r=some (.int v)/\OkT v:=by
 refine ⟨_,Mth.ar0 h0 (by show r < 8;exact h1),?_⟩
 have:r=0\/r=1\/r=2\/r=3\/r=4\/r=5\/r=6\/r=7:=by omega
 rcases this with e|e|e|e|e|e|e|e<;>subst e<;>exact ⟨by decide,by decide⟩
def bf6:Sp:=fun vs H Q _=>∃(a:Addr) (c:Nat),vs=[.ref a]/\x4 H a c/\c<=900000/\∀(z:Nat) (H':Hp),1<=z->z<=1000000000000000000000000000000->x4 H' a (c+40)->i8 a H H'->Q (.int (z:Int)) H'
theorem J6:l8 ["pool","some","found","prime","turn"] ["pool"] (j5 ah0):=by rfl'
theorem bt6 {f:Addr}{fd:FuncData}(F:x6 K "_law_times" "_law_times" ah0 f fd)(B:Bl mg)(zzy:j7 P w K mg base "_law_take" 1 ["pool","many"] ao6):o7 P w K mg base x5 2 f fd ["pool"] bf6:=by
 refine F.ok J6 (fun vs H Q E h=> ?_) (fun cdv A outer s H vs Q E hr h=> ?_)
 · obtain ⟨a,c,rfl,hp,hc,q⟩:=h;rfl
 · obtain ⟨a,c,rfl,hp,hc,q⟩:=h;have zy:l6 1 _:=hr.mono (by decide);refine ⟨_,@c7 _ _ _ _ _ (@i6 _ _ (1) _ _ _ _ J6.nd rfl (Or.inl rfl) (@p8 _ _ _ _ (@c5 _ _ _ _ _ (@j6 _ _ _ _ _ _ _ _ x3 (@g7 _ _ _ _) (@i4 _ _ _ _ _ _ _ _ _ _ zzy zy (@c5 _ _ _ _ _ (pv 0) (@c5 _ _ _ _ _ (@g7 _ _ _ _) (@c6 _) (by rfl)) (by rfl)) (by rfl) (by decide) (by rfl) (by rfl))) (@c5 _ _ _ _ _ (@j6 _ _ _ _ _ _ _ _ x3 (@g7 _ _ _ _) (@i4 _ _ _ _ _ _ _ _ _ _ zzy zy (@c5 _ _ _ _ _ (pv 0) (@c5 _ _ _ _ _ (@g7 _ _ _ _) (@c6 _) (by rfl)) (by rfl)) (by rfl) (by decide) (by rfl) (by rfl))) (@c5 _ _ _ _ _ (@G9 _ _ _ _ _ _ _ C1 (@bp0 _ _ _ [16,36,60,27720,8,9,25,49] rfl) (@i4 _ _ _ _ _ _ _ _ _ _ zzy zy (@c5 _ _ _ _ _ (pv 0) (@c5 _ _ _ _ _ (@g7 _ _ _ _) (@c6 _) (by rfl)) (by rfl)) (by rfl) (by decide) (by rfl) (by rfl)) (fun _ _=>rfl)) (@c6 _) (by rfl)) (by rfl)) (by rfl))) (by rfl) (by trivial)) (@c7 _ _ _ _ _ (@p7 _ _ _ _ (@x8 _ _ _ _ _ _ _ (pv 1) (@c5 _ _ _ _ _ (@j6 _ _ _ _ _ _ _ _ x3 (@g7 _ _ _ _) (@j6 _ _ _ _ _ _ _ _ C4 (@i4 _ _ _ _ _ _ _ _ _ _ zzy zy (@c5 _ _ _ _ _ (pv 0) (@c5 _ _ _ _ _ (@j6 _ _ _ _ _ _ _ _ ah6 (@g7 _ _ _ _) (@g7 _ _ _ _)) (@c6 _) (by rfl)) (by rfl)) (by rfl) (by decide) (by rfl) (by rfl)) (@j6 _ _ _ _ _ _ _ _ ah6 (@g7 _ _ _ _) (@g7 _ _ _ _)))) (@c6 _) (by rfl)) (by rfl) (by rfl) (by rfl) (by rfl) (by rfl)) (by rfl)) (@c7 _ _ _ _ _ (@p7 _ _ _ _ (@x8 _ _ _ _ _ _ _ (pv 1) (@c5 _ _ _ _ _ (@j6 _ _ _ _ _ _ _ _ C4 (@g7 _ _ _ _) (@j6 _ _ _ _ _ _ _ _ x3 (@g7 _ _ _ _) (@i4 _ _ _ _ _ _ _ _ _ _ zzy zy (@c5 _ _ _ _ _ (pv 0) (@c5 _ _ _ _ _ (@j6 _ _ _ _ _ _ _ _ ah6 (@g7 _ _ _ _) (@g7 _ _ _ _)) (@c6 _) (by rfl)) (by rfl)) (by rfl) (by decide) (by rfl) (by rfl)))) (@c6 _) (by rfl)) (by rfl) (by rfl) (by rfl) (by rfl) (by rfl)) (by rfl)) (@c7 _ _ _ _ _ (@i6 _ _ (1) _ _ _ _ J6.nd rfl (Or.inl rfl) (@j6 _ _ _ _ _ _ _ _ ac3 (pv 1) (@p8 _ _ _ _ (@c5 _ _ _ _ _ (@j6 _ _ _ _ _ _ _ _ x3 (@g7 _ _ _ _) (@i4 _ _ _ _ _ _ _ _ _ _ zzy zy (@c5 _ _ _ _ _ (pv 0) (@c5 _ _ _ _ _ (@g7 _ _ _ _) (@c6 _) (by rfl)) (by rfl)) (by rfl) (by decide) (by rfl) (by rfl))) (@c5 _ _ _ _ _ (@j6 _ _ _ _ _ _ _ _ x3 (@g7 _ _ _ _) (@i4 _ _ _ _ _ _ _ _ _ _ zzy zy (@c5 _ _ _ _ _ (pv 0) (@c5 _ _ _ _ _ (@j6 _ _ _ _ _ _ _ _ ah6 (@g7 _ _ _ _) (@g7 _ _ _ _)) (@c6 _) (by rfl)) (by rfl)) (by rfl) (by decide) (by rfl) (by rfl))) (@c6 _) (by rfl)) (by rfl)))) (by rfl) (by trivial)) (@dh0 _ _ _ _ _ (@i6 _ _ (2) _ _ _ _ J6.nd rfl (Or.inl rfl) (@j6 _ _ _ _ _ _ _ _ x3 (@g7 _ _ _ _) (@i4 _ _ _ _ _ _ _ _ _ _ zzy zy (@c5 _ _ _ _ _ (pv 0) (@c5 _ _ _ _ _ (@g7 _ _ _ _) (@c6 _) (by rfl)) (by rfl)) (by rfl) (by decide) (by rfl) (by rfl))) (by rfl) (by trivial)) (@da4 _ _ _ _ _ (@cr6 _ _ _ _ _ _ _ _ [2,3,5,7,11,2] (by decide+kernel) rfl PassesOwn.never (@i9 _ _ (3) _ J6.nd rfl (Or.inl rfl) (by trivial)) (@e7 _ _ _ (@l9 _ _ _ _ _ _ _ _ PassesOwn.never rfl (@X7 _ _ _ _ _ _ (by rfl) B.range (@c5 _ _ _ _ _ (@i4 _ _ _ _ _ _ _ _ _ _ zzy zy (@c5 _ _ _ _ _ (pv 0) (@c5 _ _ _ _ _ (@g7 _ _ _ _) (@c6 _) (by rfl)) (by rfl)) (by rfl) (by decide) (by rfl) (by rfl)) (@c6 _) (by rfl)) (by rfl)) (@i9 _ _ (4) _ J6.nd rfl (Or.inl rfl) (by trivial)) (@e7 _ _ _ (@i6 _ _ (2) _ _ _ _ J6.nd rfl (Or.inl rfl) (@j6 _ _ _ _ _ _ _ _ C4 (pv 2) (pv 3)) (by rfl) (by trivial))) (by intro _;rfl))) (by intro _;rfl)) (@e7 _ _ _ (@l5 _ _ _ _ (@G9 _ _ _ _ _ _ _ C1 (@j6 _ _ _ _ _ _ _ _ ac3 (pv 1) (@p8 _ _ _ _ (@c5 _ _ _ _ _ (pv 2) (@c5 _ _ _ _ _ (pv 2) (@c6 _) (by rfl)) (by rfl)))) (@i4 _ _ _ _ _ _ _ _ _ _ zzy zy (@c5 _ _ _ _ _ (pv 0) (@c5 _ _ _ _ _ (@g7 _ _ _ _) (@c6 _) (by rfl)) (by rfl)) (by rfl) (by decide) (by rfl) (by rfl)) (fun _ _=>rfl))))))))),?_⟩
   refine ⟨_,rfl,a,c,12,rfl,hp,by omega,by decide,by decide,fun r1 H1 a0 a1 P1 kb1=>⟨_,_,rfl,rfl,?_⟩⟩;refine ⟨_,rfl,a,_,12,rfl,P1,by omega,by decide,by decide,fun r2 H2 b0 b1 P2 kb2=>⟨_,_,rfl,rfl,?_⟩⟩;have kb02:=kb1.trans kb2;refine ⟨(show 8<=sizeLine by decide),fun tl htl=> ?_⟩;have nt:tl≠a:=E3 P2 htl;have s3:e8 H2 (c9 H2 tl (.lst (([16,36,60,27720,8,9,25,49]:List Int).map V.int))):=e8.upd_new htl;have h3:(c9 H2 tl (.lst (([16,36,60,27720,8,9,25,49]:List Int).map V.int))) tl=some (.lst (([16,36,60,27720,8,9,25,49]:List Int).map V.int)):=c8;generalize (c9 H2 tl (.lst (([16,36,60,27720,8,9,25,49]:List Int).map V.int)))=H3 at s3 h3 ⊢;refine ⟨_,rfl,a,_,8,rfl,x9 P2 s3,by omega,by decide,by decide,fun r3 H4 c0 c1 P4 kb4=> ?_⟩;obtain ⟨v3,hv3,ok3⟩:=dn2 c0 c1
   have kb04:i8 a H H4:=fun x o hx hn=>kb4 x o (s3 x o (kb02 x o hx hn)) hn
   refine ⟨tl,_,r3,_,rfl,rfl,i5.of (kb4 _ _ h3 nt),hv3,(show 3<=sizeLine by decide),fun so hso=> ?_⟩;have nso:so≠a:=E3 P4 hso;have so0:H so=none:=dc4 kb04 nso hso;obtain ⟨ys,eys⟩:∃ys:List Int,ys=[1+r1,1+r2,v3]:=⟨_,rfl⟩
   have oky:∀y∈ys,OkT y:=by
     rw[eys];intro y hy;simp only[dt7,ek8,or_false] at hy
     rcases hy with e|e|e<;>rw[e]
     · exact ⟨by omega,by omega⟩
     · exact ⟨by omega,by omega⟩
     · exact ok3
   have ly:ys.length=3:=by rw[eys];rfl
   have h5:(c9 H4 so (.lst [V.int (1+r1),V.int (1+r2),V.int v3])) so=some (.lst (ys.map V.int)):=by rw[eys];exact c8
   have P5:x4 (c9 H4 so (.lst [V.int (1+r1),V.int (1+r2),V.int v3])) a _:=ae0 P4 nso;have kb5:i8 a H (c9 H4 so (.lst [V.int (1+r1),V.int (1+r2),V.int v3])):=bt5 kb04 so0;generalize (c9 H4 so (.lst [V.int (1+r1),V.int (1+r2),V.int v3]))=H5 at h5 P5 kb5 ⊢;clear eys;refine ⟨_,rfl,.inl ⟨rfl,_,i5.of h5⟩,?_⟩
   have p15:(10:Int)^15=1000000000000000:=by decide
   have p14:(10:Int)^14=100000000000000:=by decide
   have p24:(10:Int)^24=1000000000000000000000000:=by decide
   have p29:(10:Int)^29=100000000000000000000000000000:=by decide
   refine ⟨_,rfl,_,_,rfl,rfl,⟨by decide,by decide,by decide⟩,a,_,_,rfl,P5,by omega,(by show (0:Int) < 10^15;decide),(by show (10:Int)^15<=_;decide),fun r4 H6 d0 d1 P6 kb6=> ?_⟩
   replace d1:r4 < 10^15:=d1
   have h6:=kb6 _ _ h5 nso;have kb06:=kb5.trans kb6;refine ⟨_,_,rfl,rfl,⟨by decide,by decide,by decide⟩,_,_,rfl,rfl,.inr (by show (-(2^64) < (10:Int)^14)/\((10:Int)^14 < 2^64);exact ⟨by decide,by decide⟩),_,_,rfl,rfl,so,_,_,rfl,rfl,h6,o9 (by rw[ds1];omega),?_⟩
   have h7:(c9 H6 so (.lst (ys.map V.int++[V.int (1+r4*10^14)]))) so=some (.lst ((ys++[1+r4*10^14]).map V.int)):=by rw[c8,dt1];rfl
   have P7:x4 (c9 H6 so (.lst (ys.map V.int++[V.int (1+r4*10^14)]))) a _:=ae0 P6 nso;have kb7:i8 a H (c9 H6 so (.lst (ys.map V.int++[V.int (1+r4*10^14)]))):=bt5 kb06 so0
   have ok7:∀y∈ys++[1+r4*10^14],OkT y:=fun y hy=>(dt4.mp hy).elim (oky y) fun hy=>by
     rw[dt3.mp hy,p14];exact ⟨by omega,by omega⟩
   refine ⟨_,rfl,.inl ⟨rfl,_,i5.of h7⟩,_,rfl,_,_,rfl,rfl,⟨by decide,by decide,by decide⟩,a,_,_,rfl,P7,by omega,(by show (0:Int) < 10^24;decide),(by show (10:Int)^24<=_;decide),fun r5 H8 e0 e1 P8 kb8=> ?_⟩
   replace e1:r5 < 10^24:=e1
   have h8:=kb8 _ _ h7 nso;have kb08:=kb7.trans kb8;refine ⟨_,_,rfl,rfl,_,_,rfl,rfl,.inl ⟨by decide,by decide⟩,so,_,_,rfl,rfl,h8,o9 (by rw[ds1,ds8];show ys.length+1<=_;omega),?_⟩;obtain ⟨zs,ezs⟩:∃zs,zs=ys++[1+r4*10^14]++[27720*(1+r5)]:=⟨_,rfl⟩
   have lz:zs.length=5:=by rw[ezs,ds8,ds8,ly];rfl
   have okz:∀y∈zs,OkT y:=by
     rw[ezs]
     exact fun y hy=>(dt4.mp hy).elim (ok7 y) fun hy=>by
       rw[dt3.mp hy];exact ⟨by omega,by omega⟩
   have h9:(c9 H8 so (.lst ((ys++[1+r4*10^14]).map V.int++[V.int (27720*(1+r5))]))) so=some (.lst (zs.map V.int)):=by rw[c8,ezs];simp only[dt1,du9,ee7]
   have P9:x4 (c9 H8 so (.lst ((ys++[1+r4*10^14]).map V.int++[V.int (27720*(1+r5))]))) a _:=ae0 P8 nso;have kb9:i8 a H (c9 H8 so (.lst ((ys++[1+r4*10^14]).map V.int++[V.int (27720*(1+r5))]))):=bt5 kb08 so0;refine ⟨_,rfl,_,rfl,a,_,200,rfl,P9,by omega,by decide,by decide,fun r6 H10 f0 f1 P10 kb10=>⟨_,_,rfl,rfl,?_⟩⟩;have h10:=kb10 _ _ h9 nso;have kb010:=kb9.trans kb10;refine ⟨_,rfl,_,_,rfl,rfl,⟨by decide,by decide,by decide⟩,a,_,_,rfl,P10,by omega,(by show (0:Int) < 10^29;decide),(by show (10:Int)^29<=_;decide),fun r7 H11 g0 g1 P11 kb11=>⟨_,_,rfl,rfl,?_⟩⟩
   replace g1:r7 < 10^29:=g1
   have h11:=kb11 _ _ h10 nso;have kb011:=kb010.trans kb11;refine ⟨(show 2<=sizeLine by decide),fun t2 ht2=> ?_⟩;have nt2:t2≠a:=E3 P11 ht2;have s12:e8 H11 (c9 H11 t2 (.lst (([1+r6,1+r7]:List Int).map V.int))):=e8.upd_new ht2;have h12:(c9 H11 t2 (.lst (([1+r6,1+r7]:List Int).map V.int))) t2=some (.lst (([1+r6,1+r7]:List Int).map V.int)):=c8;refine ⟨so,t2,_,_,rfl,rfl,s12 _ _ h11,h12,dz1 (o9 (by simp only[ds1,lz,dv9,ef0];omega)),fun s2 hs2=> ?_⟩;have P12:=x9 P11 s12;have ns2:s2≠a:=E3 P12 hs2;obtain ⟨ws,ews⟩:∃ws,ws=zs++[1+r6,1+r7]:=⟨_,rfl⟩
   have lw:ws.length=7:=by rw[ews,ds8,lz];rfl
   have okw:∀y∈ws,OkT y:=by
     rw[ews]
     exact fun y hy=>(dt4.mp hy).elim (okz y) fun hy=>by
       simp only[dt7,ek8,or_false] at hy
       rcases hy with e|e<;>rw[e]
       · exact ⟨by omega,by omega⟩
       · exact ⟨by omega,by omega⟩
   have s13:e8 (c9 H11 t2 (.lst (([1+r6,1+r7]:List Int).map V.int))) (c9 (c9 H11 t2 (.lst (([1+r6,1+r7]:List Int).map V.int))) s2 (.lst (zs.map V.int++([1+r6,1+r7]:List Int).map V.int))):=e8.upd_new hs2
   have h13:(c9 (c9 H11 t2 (.lst (([1+r6,1+r7]:List Int).map V.int))) s2 (.lst (zs.map V.int++([1+r6,1+r7]:List Int).map V.int))) s2=some (.lst (ws.map V.int)):=by rw[c8,ews,dt1]
   have P13:=x9 P12 s13
   have kb013:i8 a H (c9 (c9 H11 t2 (.lst (([1+r6,1+r7]:List Int).map V.int))) s2 (.lst (zs.map V.int++([1+r6,1+r7]:List Int).map V.int))):=fun x o hx hn=>s13 x o (s12 x o (kb011 x o hx hn))
   refine ⟨_,rfl,a,_,100,rfl,P13,by omega,by decide,by decide,fun r8 H14 i0 i1 P14 kb14=>⟨_,_,rfl,rfl,?_⟩⟩;have h14:=kb14 _ _ h13 ns2;have kb014:=kb013.trans kb14;refine ⟨(show 6<=sizeLine by decide),fun pl hpl=> ?_⟩;have npl:pl≠a:=E3 P14 hpl;have s15:e8 H14 (c9 H14 pl (.lst (([2,3,5,7,11,2]:List Int).map V.int))):=e8.upd_new hpl;have h15:(c9 H14 pl (.lst (([2,3,5,7,11,2]:List Int).map V.int))) pl=some (.lst (([2,3,5,7,11,2]:List Int).map V.int)):=c8;generalize (c9 H14 pl (.lst (([2,3,5,7,11,2]:List Int).map V.int)))=H15 at s15 h15 ⊢;have P15:=x9 P14 s15;have h15s:=s15 _ _ h14
   have kb015:i8 a H H15:=fun x o hx hn=>s15 x o (kb014 x o hx hn)
   refine ⟨pl,rfl,⟨_,i5.of h15⟩,w4 (K:=K) (a:=pl) (xs:=([2,3,5,7,11,2]:List Int).map V.int) (fun j σ H16=>∃(F:Nat) (v3 v4:Option V),σ=[some (.ref a),some (.ref s2),some (.int (F:Int)),v3,v4]/\1<=F/\F<=100*1331^j/\x4 H16 a (c+8+j)/\i8 a H15 H16)
     ⟨(1+r8).toNat,none,none,?_,by omega,by omega,P15.mono (by omega),i8.refl a H15⟩ (fun j σ H16 _ zz=>by obtain ⟨_,_,_,_,_,_,_,kb⟩:=zz;exact i5.of (kb _ _ h15 npl)) ?_ ?_⟩
   · rw[show (((1+r8).toNat:Nat):Int)=1+r8 by omega];rfl
   · rintro j x σ H16 hj ⟨F,v3,v4,rfl,F1,F2,P16,kb16⟩;obtain ⟨pr,hpr,rfl⟩:=C9 hj;have jl:j < 6:=(ds3.mp hpr).1
     have two:2<=pr/\pr<=11:=by
       have:=dt2 hpr;simp only[dt7,ek8,or_false] at this;omega
     obtain ⟨pn,rfl⟩:=dz2 (show 0<=pr by omega);refine ⟨_,rfl,a,_,4,rfl,P16,by omega,by decide,by decide,fun r9 H17 k0 k1 P17 kb17=> ?_⟩
     refine ⟨r9,rfl,by omega,by omega,E8 (lo:=0) (n:=r9.toNat) (fun i σ H18=>∃(G:Nat) (v:Option V),σ=[some (.ref a),some (.ref s2),some (.int (G:Int)),some (.int (pn:Int)),v]/\1<=G/\G<=F*11^i/\H18=H17)
       ⟨F,v4,rfl,F1,by omega,rfl⟩ ?_ ?_⟩
     · rintro i σ H18 hi ⟨G,v,rfl,G1,G2,rfl⟩;refine ⟨_,rfl,_,rfl,_,_,rfl,rfl,.inr ⟨by omega,by omega⟩,G*pn,some (.int ((0:Int)+(i:Int))),?_,ea3 G1 (by omega),?_,rfl⟩
       · rw[dy6];rfl
       · rw[ej6,<-dx3];exact ec7 G2 (by omega)
     · rintro σ H18 ⟨G,v,rfl,G1,G2,rfl⟩;refine ⟨G,_,_,rfl,G1,?_,P17,kb16.trans kb17⟩;have e3:11^r9.toNat<=11^3:=ei0 (by decide) (by omega);rw[ej6,<-dx3];exact dt6 G2 (ec7 F2 e3)
   · rintro σ H16 ⟨F,v3,v4,rfl,F1,F2,P16,kb16⟩
     replace F2:F<=100*1331^6:=F2
     replace P16:x4 H16 a (c+8+6):=P16
     have h16:=kb16 _ _ h15s ns2;have kb016:=kb015.trans kb16;refine ⟨_,rfl,_,rfl,_,rfl,(show 2<=sizeLine by decide),fun t3 ht3=> ?_⟩;have s17:e8 H16 (c9 H16 t3 (.lst (([(F:Int),(F:Int)]:List Int).map V.int))):=e8.upd_new ht3;have h17:(c9 H16 t3 (.lst (([(F:Int),(F:Int)]:List Int).map V.int))) t3=some (.lst (([(F:Int),(F:Int)]:List Int).map V.int)):=c8;refine ⟨s2,t3,_,_,rfl,rfl,s17 _ _ h16,h17,dz1 (o9 (by simp only[ds1,lw,dv9,ef0];omega)),fun u hu=> ?_⟩;have P17:=x9 P16 s17;have nu:u≠a:=E3 P17 hu;have s18:e8 (c9 H16 t3 (.lst (([(F:Int),(F:Int)]:List Int).map V.int))) (c9 (c9 H16 t3 (.lst (([(F:Int),(F:Int)]:List Int).map V.int))) u (.lst (ws.map V.int++([(F:Int),(F:Int)]:List Int).map V.int))):=e8.upd_new hu
     have h18:(c9 (c9 H16 t3 (.lst (([(F:Int),(F:Int)]:List Int).map V.int))) u (.lst (ws.map V.int++([(F:Int),(F:Int)]:List Int).map V.int))) u=some (.lst ((ws++[(F:Int),(F:Int)]).map V.int)):=by rw[c8,dt1]
     have P18:=x9 P17 s18;refine ⟨_,rfl,a,_,9,rfl,P18,by omega,by decide,by decide,fun r10 H19 m0 m1 P19 kb19=> ?_⟩
     have lall:(ws++[(F:Int),(F:Int)]).length=9:=by rw[ds8,lw];rfl
     obtain ⟨y,ey⟩:∃y,y=(ws++[(F:Int),(F:Int)]).getD r10.toNat 0:=⟨_,rfl⟩;have hy:=Mth.ar0 (p:=ws++[(F:Int),(F:Int)]) m0 (by rw[lall];exact m1);rw[<-ey] at hy
     have oky:OkT y:=by
       have:y∈ws++[(F:Int),(F:Int)]:=by
         rw[ey,ds7,ds2 (by rw[lall];omega)];exact dw2 _
       rcases dt4.mp this with z|z
       · exact okw y z
       · have e:y=(F:Int):=by
           simp only[dt7,ek8,or_false] at z;omega
         have:100*1331^6<=1000000000000000000000000000000:=by decide
         rw[e];exact ⟨by omega,by omega⟩
     obtain ⟨yn,rfl⟩:=dz2 (show 0<=y from Int.le_trans (by decide) oky.1);have o1:=oky.1;have o2:=oky.2;refine ⟨u,_,r10,_,rfl,rfl,i5.of (kb19 _ _ h18 nu),hy,?_⟩
     exact q yn H19 (by omega) (by omega) (P19.mono (by omega)) fun x o hx hn=>kb19 x o (s18 x o (s17 x o (kb016 x o hx hn))) hn
end
end My
namespace My
open PySem L2 Mth
section
variable {P:Program} {w:World} {K:PySem.W.Frag} {mg:Str->Option Value} {base:Heap} {q_TurnError q_NoTurn q_NoFit q_NoRounds q_NoNumber q_NoRoot q_TooMany q_NoKind q_NoText q_NoName q_NoRow:Addr}
def ah4 (rs:List Nat)(f:Nat->Nat):Nat:=(rs.map f).sum
theorem T8 (r:Nat)(rs:List Nat)(f:Nat->Nat):ah4 (r::rs) f=f r+ah4 rs f:=by unfold ah4;rw[du9,dz4]
theorem al5 {f g:Nat->Nat}:∀{rs:List Nat},(∀r∈rs,f r=g r)->ah4 rs f=ah4 rs g
 |[],_=>rfl
 |r::rs,h=>by rw[T8,T8,h r ds5,al5 fun x hx=>h x (ds6 _ hx)]
def Jn (l:Nat)(rs:List Nat)(j:Nat->Nat):Prop:=j 0=1/\∀n,1<=n->j n=ah4 rs fun d=>if d<=n then w6 n l (d - 1)*j (n - d) else 0
def jf (l:Nat)(rs:List Nat)(n:Nat):Nat:=(A5 l rs n).getD n 0
theorem bj8 (l:Nat)(rs:List Nat):∀(k i:Nat),i<=k->(A5 l rs k).getD i 0=jf l rs i
 |0,i,h=>by rw[show i=0 by omega];rfl
 |k+1,i,h=>by
  by_cases e:i=k+1
  · rw[e];rfl
  · show (A5 l rs k++[_]).getD i 0=_;rw[ds7,dv8 (by rw[K8];omega),<-ds7];exact bj8 l rs k i (by omega)
theorem au5 (n:Nat)(f:Nat->Nat):∀rs:List Nat,((rs.filter fun d=>decide (d<=n)).map f).sum=ah4 rs fun d=>if d<=n then f d else 0
 |[]=>rfl
 |r::rs=>by
  rw[T8,<-au5 n f rs]
  by_cases c:r<=n
  · rw[ec5 (by simpa using c),du9,dz4,if_pos c]
  · rw[ec6 (by simpa using c),if_neg c,ee8]
theorem bm1 {l:Nat}{rs:List Nat}(h1:∀d∈rs,1<=d):Jn l rs (jf l rs):=by
 refine ⟨rfl,fun n n1=> ?_⟩;obtain ⟨k,rfl⟩:∃k,n=k+1:=⟨n - 1,by omega⟩;show (A5 l rs k++[_]).getD (k+1) 0=_;rw[ds7,dw7 (by rw[K8];omega),K8,ej5];show al4 l rs (A5 l rs k) (k+1)=_;unfold al4;rw[au5]
 refine al5 fun d hd=> ?_
 have:=h1 d hd
 by_cases c:d<=k+1
 · rw[if_pos c,if_pos c,bj8 l rs k _ (by omega)]
 · rw[if_neg c,if_neg c]
end
end My
namespace My
open PySem L2 Mth
section
variable {P:Program} {w:World} {K:PySem.W.Frag} {mg:Str->Option Value} {base:Heap}
def E1 {α:Type}(R:Addr->α->Prop)(ts:List Addr)(xs:List α):Prop:=ts.length=xs.length/\∀(j:Nat) t x,ts[j]? =some t->xs[j]? =some x->R t x
theorem E1.nil {α:Type}{R:Addr->α->Prop}:E1 R [] ([]:List α):=⟨rfl,fun j t x h=>by cases h⟩
theorem E1.imp {α:Type}{R S:Addr->α->Prop}{ts:List Addr}{xs:List α}(h:E1 R ts xs)(f:∀t x,t∈ts->R t x->S t x):E1 S ts xs:=⟨h.1,fun j t x e1 e2=>f t x (dt2 e1) (h.2 j t x e1 e2)⟩
theorem E1.snoc {α:Type}{R:Addr->α->Prop}{ts:List Addr}{xs:List α}{t:Addr}{x:α}(h:E1 R ts xs)(r:R t x):E1 R (ts++[t]) (xs++[x]):=by
 refine ⟨by rw[ds8,ds8,h.1];rfl,fun j u y e1 e2=> ?_⟩
 by_cases hj:j < ts.length
 · rw[dv8 hj] at e1;rw[dv8 (by rw[<-h.1];exact hj)] at e2;exact h.2 j u y e1 e2
 · rw[dw7 (by omega)] at e1;rw[dw7 (by rw[<-h.1];omega),<-h.1] at e2;have jl:=(ds3.mp e1).1
   have:j - ts.length=0:=by simp at jl;omega
   rw[this] at e1 e2;cases e1;cases e2;exact r
theorem E1.get {α:Type}{R:Addr->α->Prop}{ts:List Addr}{xs:List α}(h:E1 R ts xs){j:Nat}{t:Addr}(e:ts[j]? =some t):∃x,xs[j]? =some x/\R t x:=by
 have jl:=(ds3.mp e).1;exact ⟨_,ds2 (by rw[<-h.1];exact jl),h.2 j t _ e (ds2 _)⟩
def J1 (H:Hp)(zs:List Addr):Hp:=fun a=>if a∈zs then none else H a
theorem J7 {H:Hp}{zs:List Addr}{a:Addr}(h:a∉zs):J1 H zs a=H a:=if_neg h
theorem P0 {H:Hp}{zs:List Addr}{a:Addr}{u:HO}(e:J1 H zs a=some u):a∉zs/\H a=some u:=by
 unfold J1 at e
 by_cases c:a∈zs
 · rw[if_pos c] at e;cases e
 · rw[if_neg c] at e;exact ⟨c,e⟩
theorem bf7 {H:Hp}{zs:List Addr}{o:Addr}{x:HO}(ho:o∈zs):J1 (c9 H o x) zs=J1 H zs:=funext fun a=>by
 unfold J1
 by_cases e:a∈zs
 · rw[if_pos e,if_pos e]
 · rw[if_neg e,if_neg e,g8 (show a≠o from fun z=>e (by rw[z];exact ho))]
theorem bt7 (H:Hp)(zs:List Addr):e8 (J1 H zs) H:=fun a u e=>(P0 e).2
theorem T1 {H H':Hp}{zs:List Addr}{o:Addr}(ho:o∈zs)(k:i8 o H H'):e8 (J1 H zs) (J1 H' zs):=fun a u e=>by
 obtain ⟨c,e⟩:=P0 e;rw[J7 c];exact k a u e (fun z=>c (by rw[z];exact ho))
theorem D3 {H H':Hp}{zs:List Addr}(s:e8 H H'):e8 (J1 H zs) (J1 H' zs):=fun a u e=>by
 obtain ⟨c,e⟩:=P0 e;rw[J7 c];exact s a u e
theorem bt8 {H H':Hp}{zs:List Addr}{o:Addr}(s:e8 H H')(ho:H o=none):e8 (J1 H zs) (J1 H' (o::zs)):=fun a u e=>by
 obtain ⟨c,e⟩:=P0 e;rw[J7 fun z=>(dt7.mp z).elim (fun y=>by rw[y,ho] at e;cases e) c];exact s a u e
theorem bt9 {H:Hp}{zs:List Addr}{o:Addr}:e8 (J1 H (o::zs)) (J1 H zs):=fun a u e=>by
 obtain ⟨c,e⟩:=P0 e;rw[J7 fun z=>c (ds6 _ z)];exact e
def N9 (H:Hp)(zs:List Addr):Prop:=∀z∈zs,∃u,H z=some u
theorem N9.keep {H H':Hp}{zs:List Addr}(h:N9 H zs)(s:e8 H H'):N9 H' zs:=fun z hz=>by
 obtain ⟨u,e⟩:=h z hz;exact ⟨u,s _ _ e⟩
theorem N9.cons {H:Hp}{zs:List Addr}{o:Addr}{u:HO}(h:N9 H zs)(e:H o=some u):N9 H (o::zs):=fun z hz=>by
 rcases dt7.mp hz with rfl|hz
 · exact ⟨u,e⟩
 · exact h z hz
theorem N9.out {H:Hp}{zs:List Addr}{a:Addr}(h:N9 H zs)(e:H a=none):a∉zs:=fun z=>by
 obtain ⟨u,e'⟩:=h a z;rw[e] at e';cases e'
def pk (rs:List (List Int))(i:Nat)(r:List Int)(b:Nat):List Int×List (List Int):=(r.drop b++r.take b,rs.take i++rs.drop (i+1))
def Y3 (rs:List (List Int))(i:Nat)(r:List Int):List (List Int×List (List Int)):=(dv4 r.length).map (pk rs i r)
def D4 (rs:List (List Int)):Nat->List (List Int×List (List Int))
 |0=>[]
 |i+1=>D4 rs i++Y3 rs i (rs.getD i [])
def ae1 (H:Hp)(t:Addr)(x:List Int×List (List Int)):Prop:=∃(a l:Addr) (as:List Addr),H t=some (.tup [.ref a,.ref l])/\H a=some (.lst (x.1.map V.int))/\H l=some (.lst (as.map V.ref))/\m9 H as x.2
theorem ae1.keep {H H':Hp}{t:Addr}{x:List Int×List (List Int)}(h:ae1 H t x)(s:e8 H H'):ae1 H' t x:=by
 obtain ⟨a,l,as,h1,h2,h3,h4⟩:=h;exact ⟨a,l,as,s _ _ h1,s _ _ h2,s _ _ h3,t9 h4 fun b _ o e=>s b o e⟩
theorem bj9 (rs:List (List Int))(h:∀r∈rs,r.length<=40):∀i,i<=rs.length->(D4 rs i).length<=40*i
 |0,_=>du3 _
 |i+1,hi=>by
  have:=bj9 rs h i (by omega);show (D4 rs i++Y3 rs i (rs.getD i [])).length<=_;rw[ds8];unfold Y3;rw[ds1,dw1]
  have:(rs.getD i []).length<=40:=by
    rw[ds7,ds2 (by omega)];exact h _ (dw2 _)
  omega
theorem cn9 {H:Hp}{as:List Addr}{rs:List (List Int)}(h:m9 H as rs)(i:Nat):m9 H (as.take i) (rs.take i):=
 ⟨by rw[du1,du1,h.1],fun j a r e1 e2=>by
   rw[ej0] at e1 e2
   by_cases c:j < i
   · rw[if_pos c] at e1 e2;exact h.2 j a r e1 e2
   · rw[if_neg c] at e1;cases e1⟩
theorem co0 {H:Hp}{as:List Addr}{rs:List (List Int)}(h:m9 H as rs)(i:Nat):m9 H (as.drop i) (rs.drop i):=
 ⟨by rw[dx1,dx1,h.1],fun j a r e1 e2=>by
   rw[eg4] at e1 e2
   exact h.2 _ a r e1 e2⟩
def bf8:Sp:=fun vs H Q _=>∃(l:Addr) (as:List Addr) (rs:List (List Int)) (zs:List Addr),vs=[.ref l]/\H l=some (.lst (as.map V.ref))/\m9 (J1 H zs) as rs/\N9 H zs/\rs.length<=40/\(∀r∈rs,r.length<=40)/\∀(o:Addr) (ts:List Addr) (H':Hp),H o=none->e8 H H'->H' o=some (.lst (ts.map V.ref))->E1 (ae1 (J1 H' (o::zs))) ts (D4 rs rs.length)->Q (.ref o) H'
theorem N5:l8 ["rings","picks","at","ring","left","begin"] ["rings"] (j5 ak8):=by rfl'
theorem bx6 {f:Addr}{fd:FuncData}(F:x6 K "picks_of" "picks_of" ak8 f fd)(B:Bl mg):o7 P w K mg base x5 1 f fd ["rings"] bf8:=by
 refine F.ok N5 (fun vs H Q E h=> ?_) (fun cdv A outer s H vs Q E hr h=> ?_)
 · obtain ⟨l,as,rs,zs,rfl,hl,rows,thz,lr,lr2,q⟩:=h;rfl
 · obtain ⟨l,as,rs,zs,rfl,hl,rows,thz,lr,lr2,q⟩:=h;refine ⟨_,@c7 _ _ _ _ _ (@i6 _ _ (1) _ _ _ _ N5.nd rfl (Or.inl rfl) (@p8 _ _ _ _ (@c6 _)) (by rfl) (by trivial)) (@c7 _ _ _ _ _ (@l9 _ _ _ _ _ _ _ _ PassesOwn.never rfl (@ai1 _ _ _ _ _ _ _ _ B.enum (@c5 _ _ _ _ _ (pv 0) (@c6 _) (by rfl)) (by rfl) (by rfl)) (@T9 _ _ _ _ _ _ rfl (@A3 _ _ _ _ _ (@i9 _ _ (2) _ N5.nd rfl (Or.inl rfl) (by trivial)) (@A3 _ _ _ _ _ (@i9 _ _ (3) _ N5.nd rfl (Or.inl rfl) (by trivial)) (@Q1 _) (by rfl)) (by rfl)) (by rfl) (by rfl)) (@c7 _ _ _ _ _ (@i6 _ _ (4) _ _ _ _ N5.nd rfl (Or.inl rfl) (@j6 _ _ _ _ _ _ _ _ ac3 (@W0 _ _ _ _ _ _ _ _ _ _ ab0 (pv 0) (@ah8 _) (@V9 _ _ _ (pv 2))) (@W0 _ _ _ _ _ _ _ _ _ _ ab0 (pv 0) (@V9 _ _ _ (@j6 _ _ _ _ _ _ _ _ x3 (pv 2) (@g7 _ _ _ _))) (@ah8 _))) (by rfl) (by trivial)) (@e7 _ _ _ (@l9 _ _ _ _ _ _ _ _ PassesOwn.never rfl (@X7 _ _ _ _ _ _ (by rfl) B.range (@c5 _ _ _ _ _ (@y7 _ _ _ _ _ B.len (@c5 _ _ _ _ _ (pv 3) (@c6 _) (by rfl)) (by rfl) (by rfl)) (@c6 _) (by rfl)) (by rfl)) (@i9 _ _ (5) _ N5.nd rfl (Or.inl rfl) (by trivial)) (@e7 _ _ _ (@p7 _ _ _ _ (@x8 _ _ _ _ _ _ _ (pv 1) (@c5 _ _ _ _ _ (@an4 _ _ _ _ _ (@c5 _ _ _ _ _ (@j6 _ _ _ _ _ _ _ _ ac3 (@W0 _ _ _ _ _ _ _ _ _ _ ab0 (pv 3) (@V9 _ _ _ (pv 5)) (@ah8 _)) (@W0 _ _ _ _ _ _ _ _ _ _ ab0 (pv 3) (@ah8 _) (@V9 _ _ _ (pv 5)))) (@c5 _ _ _ _ _ (pv 4) (@c6 _) (by rfl)) (by rfl))) (@c6 _) (by rfl)) (by rfl) (by rfl) (by rfl) (by rfl) (by rfl)) (by rfl))) (by intro _;rfl)))) (by intro _;rfl)) (@e7 _ _ _ (@l5 _ _ _ _ (pv 1)))),?_⟩;refine ⟨du3 _,fun o ho=> ?_⟩;have s1:e8 H (c9 H o (.lst [])):=e8.upd_new ho;have h1o:(c9 H o (.lst [])) o=some (.lst (([]:List Addr).map V.ref)):=c8;generalize (c9 H o (.lst []))=H1 at s1 h1o ⊢;have nlo:l≠o:=g6 hl ho
   refine ⟨_,rfl,l,rfl,⟨_,i5.of (s1 _ _ hl)⟩,ac8 (K:=K) (a:=l) (xs:=as.map V.ref) (fun i σ H2=>∃(ts:List Addr) (v2 v3 v4 v5:Option V),σ=[some (.ref l),some (.ref o),v2,v3,v4,v5]/\H2 o=some (.lst (ts.map V.ref))/\E1 (ae1 (J1 H2 (o::zs))) ts (D4 rs i)/\e8 H H2)
     ⟨[],none,none,none,none,rfl,h1o,E1.nil,s1⟩ (fun i σ H2 _ zz=>by obtain ⟨_,_,_,_,_,_,_,_,s⟩:=zz;exact i5.of (s _ _ hl)) ?_ ?_⟩
   · rintro i y σ H2 tt hi ⟨ts,v2,v3,v4,v5,rfl,h2o,ats,s2⟩ htt
     obtain ⟨a,ha,rfl⟩:∃a,as[i]? =some a/\y=V.ref a:=by
       rw[ds9] at hi
       cases e:as[i]? with
       |none=>rw[e] at hi;cases hi
       |some a=>rw[e] at hi;exact ⟨a,rfl,(Option.some.inj hi).symm⟩
     have il:i < rs.length:=by rw[<-rows.1];exact (ds3.mp ha).1
     obtain ⟨r,hr⟩:∃r,rs[i]? =some r:=⟨_,ds2 il⟩
     have er:rs.getD i []=r:=by rw[ds7,hr];rfl
     have lr40:=lr2 r (dt2 hr);have h0a:=(P0 (rows.2 i a r ha hr)).2;have s3:e8 H2 (c9 H2 tt (.tup [.int (i:Int),.ref a])):=e8.upd_new htt;have h3t:(c9 H2 tt (.tup [.int (i:Int),.ref a])) tt=some (.tup [.int (i:Int),.ref a]):=c8;generalize (c9 H2 tt (.tup [.int (i:Int),.ref a]))=H3 at s3 h3t ⊢;refine ⟨tt,_,rfl,T2.of h3t,rfl,_,_,rfl,_,_,rfl,rfl,?_⟩;have s03:=s2.trans s3
     have la:(as.map V.ref).length=rs.length:=by rw[ds1,rows.1]
     refine ⟨_,rfl,_,rfl,_,rfl,l,_,rfl,i5.of (s03 _ _ hl),fun x1 hx1=> ?_⟩;rw[ck8 (as.map V.ref) i (by omega),<-em9];have s4:e8 H3 (c9 H3 x1 (.lst ((as.take i).map V.ref))):=e8.upd_new hx1;have h4x:(c9 H3 x1 (.lst ((as.take i).map V.ref))) x1=some (.lst ((as.take i).map V.ref)):=c8;generalize (c9 H3 x1 (.lst ((as.take i).map V.ref)))=H4 at s4 h4x ⊢;have s04:=s03.trans s4;refine ⟨_,rfl,_,rfl,_,_,rfl,rfl,_,rfl,l,_,rfl,i5.of (s04 _ _ hl),fun x2 hx2=> ?_⟩;rw[show ((i:Int)+1)=((i+1:Nat):Int) by omega,av3 (as.map V.ref) (i+1) (by omega),<-eo6];have s5:e8 H4 (c9 H4 x2 (.lst ((as.drop (i+1)).map V.ref))):=e8.upd_new hx2;have h5x:(c9 H4 x2 (.lst ((as.drop (i+1)).map V.ref))) x2=some (.lst ((as.drop (i+1)).map V.ref)):=c8;generalize (c9 H4 x2 (.lst ((as.drop (i+1)).map V.ref)))=H5 at s5 h5x ⊢;refine ⟨x1,x2,_,_,rfl,rfl,s5 _ _ h4x,h5x,dz1 (o9 (by simp only[ds1,du1,dx1];have:=rows.1;omega)),fun L hL=> ?_⟩;rw[<-dt1];have s6:e8 H5 (c9 H5 L (.lst ((as.take i++as.drop (i+1)).map V.ref))):=e8.upd_new hL;have h6L:(c9 H5 L (.lst ((as.take i++as.drop (i+1)).map V.ref))) L=some (.lst ((as.take i++as.drop (i+1)).map V.ref)):=c8;generalize (c9 H5 L (.lst ((as.take i++as.drop (i+1)).map V.ref)))=H6 at s6 h6L ⊢;have s26:=((s3.trans s4).trans s5).trans s6;have s06:=s2.trans s26;have th2:N9 H2 (o::zs):=(thz.keep s2).cons h2o;have nLo:L∉o::zs:=(th2.keep ((s3.trans s4).trans s5)).out hL
     have nLo1:L≠o:=fun z=>nLo (z▸ds5)
     have rowsO:m9 (J1 H6 (o::zs)) (as.take i++as.drop (i+1)) (rs.take i++rs.drop (i+1)):=t9 (bp1 (cn9 rows i) (co0 rows (i+1))) fun b _ u e=>bt8 s06 ho b u e
     have ats6:E1 (ae1 (J1 H6 (o::zs))) ts (D4 rs i):=ats.imp fun t x _ h=>h.keep (D3 s26)
     refine ⟨_,rfl,a,_,rfl,.inl (i5.of (s06 _ _ h0a)),_,rfl,by rw[ds1];omega,by rw[ds1];omega,?_⟩;rw[ds1,show ((r.length:Int)).toNat=r.length by omega];have tl:=ats.1;have pl:=bj9 rs lr2 i (by omega)
     refine E8 (lo:=0) (n:=r.length) (fun b σ H7=>∃(ts:List Addr) (v5:Option V),σ=[some (.ref l),some (.ref o),some (.int (i:Int)),some (.ref a),some (.ref L),v5]/\H7 o=some (.lst (ts.map V.ref))/\E1 (ae1 (J1 H7 (o::zs))) ts (D4 rs i++(dv4 b).map (pk rs i r))/\i8 o H6 H7)
       ⟨ts,v5,rfl,s26 _ _ h2o,by rw[List.range_zero,ee7,du8];exact ats6,i8.refl _ _⟩ ?_ ?_
     · rintro b σ H7 hb ⟨ts,v5,rfl,h7o,ats7,kb7⟩
       have e0:(0:Int)+(b:Int)=(b:Int):=by omega
       rw[e0];have s07:e8 H H7:=s06.kb kb7 ho;have h7a:=s07 _ _ h0a
       have lts:ts.length<=1700:=by
         have:=ats7.1;rw[ds8,ds1,dw1] at this;omega
       refine ⟨_,rfl,.inl ⟨rfl,_,i5.of h7o⟩,_,rfl,_,rfl,_,rfl,a,_,rfl,i5.of h7a,fun y1 hy1=> ?_⟩;rw[av3 (r.map V.int) b (by rw[ds1];omega),<-eo6];have s8:e8 H7 (c9 H7 y1 (.lst ((r.drop b).map V.int))):=e8.upd_new hy1;have h8y:(c9 H7 y1 (.lst ((r.drop b).map V.int))) y1=some (.lst ((r.drop b).map V.int)):=c8;generalize (c9 H7 y1 (.lst ((r.drop b).map V.int)))=H8 at s8 h8y ⊢;refine ⟨_,rfl,_,rfl,_,rfl,a,_,rfl,i5.of (s8 _ _ h7a),fun y2 hy2=> ?_⟩;rw[ck8 (r.map V.int) b (by rw[ds1];omega),<-em9];have s9:e8 H8 (c9 H8 y2 (.lst ((r.take b).map V.int))):=e8.upd_new hy2;have h9y:(c9 H8 y2 (.lst ((r.take b).map V.int))) y2=some (.lst ((r.take b).map V.int)):=c8;generalize (c9 H8 y2 (.lst ((r.take b).map V.int)))=H9 at s9 h9y ⊢;refine ⟨y1,y2,_,_,rfl,rfl,s9 _ _ h8y,h9y,dz1 (o9 (by simp only[ds1,du1,dx1];omega)),fun c hc=> ?_⟩;rw[<-dt1];have s10:e8 H9 (c9 H9 c (.lst ((r.drop b++r.take b).map V.int))):=e8.upd_new hc;have h10c:(c9 H9 c (.lst ((r.drop b++r.take b).map V.int))) c=some (.lst ((r.drop b++r.take b).map V.int)):=c8;generalize (c9 H9 c (.lst ((r.drop b++r.take b).map V.int)))=H10 at s10 h10c ⊢;refine ⟨_,rfl,(show 2<=sizeLine by decide),fun t ht=> ?_⟩;have s11:e8 H10 (c9 H10 t (.tup [.ref c,.ref L])):=e8.upd_new ht;have h11t:(c9 H10 t (.tup [.ref c,.ref L])) t=some (.tup [.ref c,.ref L]):=c8;generalize (c9 H10 t (.tup [.ref c,.ref L]))=H11 at s11 h11t ⊢;have s79:=s8.trans s9;have s710:=s79.trans s10;have s711:=s710.trans s11;have th7:N9 H7 (o::zs):=(thz.keep s07).cons h7o;have nco:c∉o::zs:=(th7.keep s79).out hc;have nto:t∉o::zs:=(th7.keep s710).out ht;refine ⟨o,_,_,rfl,rfl,s711 _ _ h7o,dw0 (show _<=2000 by rw[ds1];omega) (by decide),?_⟩;rw[show ts.map V.ref++[V.ref t]=(ts++[t]).map V.ref by rw[dt1];rfl];refine ⟨ts++[t],_,rfl,c8,?_,(kb7.trans (s711.but o)).upd_a⟩;rw[bf7 ds5,ef1,dt1,<-du2];refine E1.snoc (ats7.imp fun t x _ h=>h.keep (D3 s711)) ?_;have h7L:=kb7 _ _ h6L nLo1;refine ⟨c,L,_,by rw[J7 nto];exact h11t,by rw[J7 nco];exact s11 _ _ h10c,by rw[J7 nLo];exact s711 _ _ h7L,?_⟩
       exact t9 rowsO fun b _ u e=>(T1 ds5 (kb7.trans (s711.but o))) b u e
     · rintro σ H7 ⟨ts,v5,rfl,h7o,ats7,kb7⟩;refine ⟨ts,_,_,_,v5,rfl,h7o,?_,s06.kb kb7 ho⟩;show E1 _ ts (D4 rs i++Y3 rs i (rs.getD i []));rw[er];exact ats7
   · rintro σ H2 ⟨ts,v2,v3,v4,v5,rfl,h2o,ats,s2⟩;rw[ds1,rows.1] at ats;exact ⟨_,rfl,q o ts H2 ho s2 h2o ats⟩
def nxC (x:List (List Int)×List (List Int)):List (List (List Int)×List (List Int)):=(D4 x.2 x.2.length).map fun y=>(x.1++[y.1],y.2)
def v9 (rs:List (List Int)):Nat->List (List (List Int)×List (List Int))
 |0=>[([rs.getD 0 []],rs.drop 1)]
 |k+1=>(v9 rs k).flatMap nxC
def L8 (H:Hp)(t:Addr)(x:List (List Int)×List (List Int)):Prop:=∃(c l:Addr) (cs as:List Addr),H t=some (.tup [.ref c,.ref l])/\H c=some (.lst (cs.map V.ref))/\m9 H cs x.1/\H l=some (.lst (as.map V.ref))/\m9 H as x.2
theorem L8.keep {H H':Hp}{t:Addr}{x:List (List Int)×List (List Int)}(h:L8 H t x)(s:e8 H H'):L8 H' t x:=by
 obtain ⟨c,l,cs,as,h1,h2,h3,h4,h5⟩:=h;exact ⟨c,l,cs,as,s _ _ h1,s _ _ h2,t9 h3 fun b _ o e=>s b o e,s _ _ h4,t9 h5 fun b _ o e=>s b o e⟩
theorem ax1 {rs:List (List Int)}:∀(i:Nat) {y:List Int×List (List Int)},y∈D4 rs i->y.2.length<=rs.length/\∀r∈y.2,r∈rs
 |0,y,h=>by cases h
 |i+1,y,h=>by
  rcases dt4.mp h with z|z
  · exact ax1 i z
  · obtain ⟨b,_,rfl⟩:=dt0.mp z;refine ⟨?_,fun r hr=> ?_⟩
    · show (rs.take i++rs.drop (i+1)).length<=_;rw[ds8,du1,dx1];omega
    · rcases dt4.mp hr with w|w
      · exact dy5 w
      · exact ec3 w
theorem ap4 {rs:List (List Int)}:∀(k:Nat) {x:List (List Int)×List (List Int)},x∈v9 rs k->x.2.length<=rs.length/\(∀r∈x.2,r∈rs)/\x.1.length=k+1
 |0,x,h=>by
  rw[dt3.mp h];exact ⟨by show (rs.drop 1).length<=_;rw[dx1];omega,fun r hr=>ec3 hr,rfl⟩
 |k+1,x,h=>by
  obtain ⟨x',h',z⟩:=dx7.mp h;obtain ⟨y,hy,rfl⟩:=dt0.mp z;obtain ⟨a,b,c⟩:=ap4 k h';obtain ⟨d,e⟩:=ax1 _ hy;exact ⟨dt6 d a,fun r hr=>b r (e r hr),by show (x'.1++[y.1]).length=_;rw[ds8,c];rfl⟩
def al6:Sp:=fun vs H Q _=>∃(l:Addr) (as:List Addr) (rs:List (List Int)) (zs:List Addr) (part:Nat),vs=[.ref l,.int (part:Int)]/\H l=some (.lst (as.map V.ref))/\l∉zs/\m9 (J1 H zs) as rs/\N9 H zs/\1<=rs.length/\rs.length<=40/\(∀r∈rs,r.length<=40)/\1<=part/\part<=40/\(∀k,k < part->(v9 rs k).length<=2000)/\∀(o:Addr) (ts:List Addr) (H':Hp),H o=none->e8 H H'->H' o=some (.lst (ts.map V.ref))->E1 (L8 (J1 H' zs)) ts (v9 rs (part - 1))->Q (.ref o) H'
theorem D5:l8 ["rings","part","chains","taken","longer","chain","left","ring","rest"] ["rings","part"] (j5 ag7):=by rfl'
theorem bu0 {f:Addr}{fd:FuncData}(F:x6 K "chains_of" "chains_of" ag7 f fd)(B:Bl mg)(zkz:j7 P w K mg base "picks_of" 1 ["rings"] bf8):o7 P w K mg base x5 2 f fd ["rings","part"] al6:=by
 refine F.ok D5 (fun vs H Q E h=> ?_) (fun cdv A outer s H vs Q E hr h=> ?_)
 · obtain ⟨l,as,rs,zs,part,rfl,hl,nlz,rows,thz,lr1,lr,lr2,p1,p2,few,q⟩:=h;rfl
 · obtain ⟨l,as,rs,zs,part,rfl,hl,nlz,rows,thz,lr1,lr,lr2,p1,p2,few,q⟩:=h;have ze:l6 1 _:=hr.mono (by decide);refine ⟨_,@c7 _ _ _ _ _ (@i6 _ _ (2) _ _ _ _ D5.nd rfl (Or.inl rfl) (@p8 _ _ _ _ (@c5 _ _ _ _ _ (@an4 _ _ _ _ _ (@c5 _ _ _ _ _ (@p8 _ _ _ _ (@c5 _ _ _ _ _ (@G9 _ _ _ _ _ _ _ C1 (pv 0) (@g7 _ _ _ _) (fun _ _=>rfl)) (@c6 _) (by rfl))) (@c5 _ _ _ _ _ (@W0 _ _ _ _ _ _ _ _ _ _ ab0 (pv 0) (@V9 _ _ _ (@g7 _ _ _ _)) (@ah8 _)) (@c6 _) (by rfl)) (by rfl))) (@c6 _) (by rfl))) (by rfl) (by trivial)) (@c7 _ _ _ _ _ (@l9 _ _ _ _ _ _ _ _ PassesOwn.never rfl (@K5 _ _ _ _ _ _ _ (by rfl) B.range (@c5 _ _ _ _ _ (@g7 _ _ _ _) (@c5 _ _ _ _ _ (pv 1) (@c6 _) (by rfl)) (by rfl)) (by rfl) (by rfl)) (@i9 _ _ (3) _ D5.nd rfl (Or.inl rfl) (by trivial)) (@c7 _ _ _ _ _ (@i6 _ _ (4) _ _ _ _ D5.nd rfl (Or.inl rfl) (@p8 _ _ _ _ (@c6 _)) (by rfl) (by trivial)) (@c7 _ _ _ _ _ (@l9 _ _ _ _ _ _ _ _ PassesOwn.never rfl (@t5 _ _ _ _ (pv 2)) (@T9 _ _ _ _ _ _ rfl (@A3 _ _ _ _ _ (@i9 _ _ (5) _ D5.nd rfl (Or.inl rfl) (by trivial)) (@A3 _ _ _ _ _ (@i9 _ _ (6) _ D5.nd rfl (Or.inl rfl) (by trivial)) (@Q1 _) (by rfl)) (by rfl)) (by rfl) (by rfl)) (@e7 _ _ _ (@l9 _ _ _ _ _ _ _ _ PassesOwn.never rfl (@t5 _ _ _ _ (@i4 _ _ _ _ _ _ _ _ _ _ zkz ze (@c5 _ _ _ _ _ (pv 6) (@c6 _) (by rfl)) (by rfl) (by decide) (by rfl) (by rfl))) (@T9 _ _ _ _ _ _ rfl (@A3 _ _ _ _ _ (@i9 _ _ (7) _ D5.nd rfl (Or.inl rfl) (by trivial)) (@A3 _ _ _ _ _ (@i9 _ _ (8) _ D5.nd rfl (Or.inl rfl) (by trivial)) (@Q1 _) (by rfl)) (by rfl)) (by rfl) (by rfl)) (@e7 _ _ _ (@p7 _ _ _ _ (@x8 _ _ _ _ _ _ _ (pv 4) (@c5 _ _ _ _ _ (@an4 _ _ _ _ _ (@c5 _ _ _ _ _ (@j6 _ _ _ _ _ _ _ _ ac3 (pv 5) (@p8 _ _ _ _ (@c5 _ _ _ _ _ (pv 7) (@c6 _) (by rfl)))) (@c5 _ _ _ _ _ (pv 8) (@c6 _) (by rfl)) (by rfl))) (@c6 _) (by rfl)) (by rfl) (by rfl) (by rfl) (by rfl) (by rfl)) (by rfl))) (by intro _;rfl))) (by intro _;rfl)) (@e7 _ _ _ (@i6 _ _ (2) _ _ _ _ D5.nd rfl (Or.inl rfl) (pv 4) (by rfl) (by trivial))))) (by intro _;rfl)) (@e7 _ _ _ (@l5 _ _ _ _ (pv 2)))),?_⟩
   obtain ⟨a0,as',rfl⟩:∃a0 as',as=a0::as':=by
     cases as with
     |nil=>have:=rows.1;simp at this;omega
     |cons a t=>exact ⟨a,t,rfl⟩
   obtain ⟨r0,rs',rfl⟩:∃r0 rs',rs=r0::rs':=by
     cases rs with
     |nil=>simp at lr1
     |cons a t=>exact ⟨a,t,rfl⟩
   have h0:J1 H zs a0=some (.lst (r0.map V.int)):=rows.2 0 a0 r0 rfl rfl;refine ⟨_,rfl,l,_,_,_,rfl,rfl,i5.of hl,(K1 (j:=0) rfl),(show 1<=sizeLine by decide),fun c0 hc0=> ?_⟩;have s1:e8 H (c9 H c0 (.lst [V.ref a0])):=e8.upd_new hc0;have h1c:(c9 H c0 (.lst [V.ref a0])) c0=some (.lst (([a0]:List Addr).map V.ref)):=c8;generalize (c9 H c0 (.lst [V.ref a0]))=H1 at s1 h1c ⊢;refine ⟨_,rfl,_,rfl,l,_,rfl,i5.of (s1 _ _ hl),fun x1 hx1=> ?_⟩;rw[show Y7 ((a0::as').map V.ref) (some 1) none=as'.map V.ref from av3 ((a0::as').map V.ref) 1 (by simp)];have s2:e8 H1 (c9 H1 x1 (.lst (as'.map V.ref))):=e8.upd_new hx1;have h2x:(c9 H1 x1 (.lst (as'.map V.ref))) x1=some (.lst (as'.map V.ref)):=c8;generalize (c9 H1 x1 (.lst (as'.map V.ref)))=H2 at s2 h2x ⊢;refine ⟨(show 2<=sizeLine by decide),fun t0 ht0=> ?_⟩;have s3:e8 H2 (c9 H2 t0 (.tup [.ref c0,.ref x1])):=e8.upd_new ht0;have h3t:(c9 H2 t0 (.tup [.ref c0,.ref x1])) t0=some (.tup [.ref c0,.ref x1]):=c8;generalize (c9 H2 t0 (.tup [.ref c0,.ref x1]))=H3 at s3 h3t ⊢;refine ⟨(show 1<=sizeLine by decide),fun F0 hF0=> ?_⟩;have s4:e8 H3 (c9 H3 F0 (.lst [V.ref t0])):=e8.upd_new hF0;have h4F:(c9 H3 F0 (.lst [V.ref t0])) F0=some (.lst (([t0]:List Addr).map V.ref)):=c8;generalize (c9 H3 F0 (.lst [V.ref t0]))=H4 at s4 h4F ⊢;have s02:=s1.trans s2;have s03:=s02.trans s3;have s04:=s03.trans s4;have n1:c0∉zs:=thz.out hc0;have n2:x1∉zs:=(thz.keep s1).out hx1;have n3:t0∉zs:=(thz.keep s02).out ht0
   have ch0:L8 (J1 H4 zs) t0 ([r0],rs'):=by
     refine ⟨c0,x1,[a0],as',by rw[J7 n3];exact s4 _ _ h3t,by rw[J7 n1];exact ((s2.trans s3).trans s4) _ _ h1c,⟨rfl,fun j b r e1 e2=> ?_⟩,by rw[J7 n2];exact (s3.trans s4) _ _ h2x,⟨by have:=rows.1;simpa using this,fun j b r e1 e2=> ?_⟩⟩
     · rcases j with _|j
       · cases e1;cases e2;exact D3 s04 _ _ h0
       · cases e1
     · exact D3 s04 _ _ (rows.2 (j+1) b r e1 e2)
   refine ⟨_,rfl,1,(part:Int),rfl,⟨by decide,by decide,by omega,by omega⟩,?_⟩;rw[show ((part:Int) - 1).toNat=part - 1 by omega]
   refine E8 (lo:=1) (n:=part - 1) (fun i σ H5=>∃(F:Addr) (ts:List Addr) (v3 v4 v5 v6 v7 v8:Option V),σ=[some (.ref l),some (.int (part:Int)),some (.ref F),v3,v4,v5,v6,v7,v8]/\H5 F=some (.lst (ts.map V.ref))/\E1 (L8 (J1 H5 zs)) ts (v9 (r0::rs') i)/\e8 H H5/\H F=none)
     ⟨F0,[t0],none,none,none,none,none,none,rfl,h4F,⟨rfl,fun j t x e1 e2=>by
       rcases j with _|j
       · cases e1;cases e2;exact ch0
       · cases e1⟩,s04,s03.free hF0⟩ ?_ ?_
   · rintro i σ H5 hi ⟨F,ts,v3,v4,v5,v6,v7,v8,rfl,h5F,ats,s05,hF⟩;refine ⟨du3 _,fun L hL=> ?_⟩;have nFL:F≠L:=g6 h5F hL;have hL0:H L=none:=s05.free hL;have s6:e8 H5 (c9 H5 L (.lst [])):=e8.upd_new hL;have h6L:(c9 H5 L (.lst [])) L=some (.lst (([]:List Addr).map V.ref)):=c8;generalize (c9 H5 L (.lst []))=H6 at s6 h6L ⊢
     have ats6:E1 (L8 (J1 H6 (L::zs))) ts (v9 (r0::rs') i):=ats.imp fun t x _ h=>h.keep (bt8 s6 hL)
     have few1:=few (i+1) (by omega)
     refine ⟨_,rfl,F,rfl,⟨_,i5.of (s6 _ _ h5F)⟩,w4 (K:=K) (a:=F) (xs:=ts.map V.ref) (fun j σ H7=>∃(us:List Addr) (v5 v6 v7 v8:Option V),σ=[some (.ref l),some (.int (part:Int)),some (.ref F),some (.int (1+(i:Int))),some (.ref L),v5,v6,v7,v8]/\H7 L=some (.lst (us.map V.ref))/\E1 (L8 (J1 H7 (L::zs))) us (((v9 (r0::rs') i).take j).flatMap nxC)/\i8 L H6 H7)
       ⟨[],v5,v6,v7,v8,rfl,h6L,E1.nil,i8.refl _ _⟩ (fun j σ H7 _ zz=>by obtain ⟨_,_,_,_,_,_,_,_,k⟩:=zz;exact i5.of (k _ _ (s6 _ _ h5F) nFL)) ?_ ?_⟩
     · rintro j y σ H7 hj ⟨us,v5,v6,v7,v8,rfl,h7L,atu,kb7⟩
       obtain ⟨t,ht,rfl⟩:∃t,ts[j]? =some t/\y=V.ref t:=by
         rw[ds9] at hj
         cases e:ts[j]? with
         |none=>rw[e] at hj;cases hj
         |some a=>rw[e] at hj;exact ⟨a,rfl,(Option.some.inj hj).symm⟩
       obtain ⟨x,hx,cx⟩:=ats6.get ht;obtain ⟨c,xl,cs,bs,g1,g2,g3,g4,g5⟩:=cx.keep (T1 ds5 kb7);obtain ⟨b1,b2,b3⟩:=ap4 i (dt2 hx);refine ⟨t,_,rfl,T2.of (P0 g1).2,rfl,_,_,rfl,_,_,rfl,rfl,?_⟩;have s07:e8 H H7:=(s05.trans s6).kb kb7 hL0;have th7:N9 H7 (L::zs):=(thz.keep s07).cons h7L;refine ⟨_,rfl,xl,bs,x.2,L::zs,rfl,(P0 g4).2,g5,th7,by omega,fun r hr=>lr2 r (b2 r hr),fun o ps H8 ho s8 h8o atp=> ?_⟩;have noL:o≠L:=(g6 h7L ho).symm;have cx8:L8 (J1 H8 (L::zs)) t x:=L8.keep ⟨c,xl,cs,bs,g1,g2,g3,g4,g5⟩ (D3 s8);have lenP:=atp.1
       refine ⟨o,rfl,⟨_,i5.of h8o⟩,w4 (K:=K) (a:=o) (xs:=ps.map V.ref) (fun k σ H9=>∃(us:List Addr) (v7 v8:Option V),σ=[some (.ref l),some (.int (part:Int)),some (.ref F),some (.int (1+(i:Int))),some (.ref L),some (.ref c),some (.ref xl),v7,v8]/\H9 L=some (.lst (us.map V.ref))/\E1 (L8 (J1 H9 (L::zs))) us (((v9 (r0::rs') i).take j).flatMap nxC++(nxC x).take k)/\i8 L H8 H9)
         ⟨us,v7,v8,rfl,s8 _ _ h7L,by rw[eb9,du8];exact atu.imp fun t x _ h=>h.keep (D3 s8),i8.refl _ _⟩ (fun k σ H9 _ zz=>by obtain ⟨_,_,_,_,_,_,kk⟩:=zz;exact i5.of (kk _ _ h8o noL)) ?_ ?_⟩
       · rintro k y σ H9 hk ⟨us,v7,v8,rfl,h9L,at9,kb9⟩
         obtain ⟨t',ht',rfl⟩:∃t,ps[k]? =some t/\y=V.ref t:=by
           rw[ds9] at hk
           cases e:ps[k]? with
           |none=>rw[e] at hk;cases hk
           |some a=>rw[e] at hk;exact ⟨a,rfl,(Option.some.inj hk).symm⟩
         obtain ⟨y,hy,py⟩:=atp.get ht';obtain ⟨pa,pl,pas,q1,q2,q3,q4⟩:=(py.keep (T1 (ds6 _ ds5) kb9)).keep bt9;obtain ⟨c',xl',cs',bs',f1,f2,f3,f4,f5⟩:=cx8.keep (T1 ds5 kb9);have s79:=s8;have e1:=(P0 f1).2;have hc9:H9 c=some (.lst (cs.map V.ref)):=(P0 ((T1 ds5 kb9) _ _ (D3 s8 _ _ g2))).2
         have g3':m9 (J1 H9 (L::zs)) cs x.1:=t9 g3 fun b _ u e=>(T1 ds5 kb9) _ _ (D3 s8 _ _ e)
         have lcs:cs.length<=40:=by rw[g3.1,b3];omega
         have th9:N9 H9 (L::zs):=fun z hz=>by
           rcases dt7.mp hz with rfl|hz
           · exact ⟨_,h9L⟩
           · by_cases e:z=L
             · rw[e];exact ⟨_,h9L⟩
             · obtain ⟨u,hu⟩:=(th7.keep s8) z (ds6 _ hz);exact ⟨u,kb9 _ _ hu e⟩
         have hnx:(nxC x)[k]? =some (x.1++[y.1],y.2):=by
           unfold nxC;rw[ds9,hy];rfl
         have lus:us.length<=2000:=by
           rw[at9.1];refine dt6 ?_ few1;show _<=((v9 (r0::rs') i).flatMap nxC).length
           have ex:v9 (r0::rs') i=(v9 (r0::rs') i).take j++x::(v9 (r0::rs') i).drop (j+1):=by
             have jl:=(ds3.mp hx).1;have e3:=(ds3.mp hx).2;rw[<-e3,<-ea5 jl,dx2]
           have e4:=congrArg (fun z=>(z.flatMap nxC).length) ex;simp only[eb8,dy7,ds8] at e4;rw[e4,ds8,du1];omega
         refine ⟨t',_,rfl,T2.of (P0 q1).2,rfl,_,_,rfl,_,_,rfl,rfl,?_⟩;refine ⟨_,rfl,.inl ⟨rfl,_,i5.of h9L⟩,_,rfl,_,rfl,(show 1<=sizeLine by decide),fun e he=> ?_⟩;have s10:e8 H9 (c9 H9 e (.lst [V.ref pa])):=e8.upd_new he;have h10e:(c9 H9 e (.lst [V.ref pa])) e=some (.lst [V.ref pa]):=c8;generalize (c9 H9 e (.lst [V.ref pa]))=H10 at s10 h10e ⊢;refine ⟨c,e,_,_,rfl,rfl,s10 _ _ hc9,h10e,dz1 (o9 (by simp only[ds1,eh3];omega)),fun d hd=> ?_⟩;rw[show cs.map V.ref++[V.ref pa]=(cs++[pa]).map V.ref by rw[dt1];rfl];have s11:e8 H10 (c9 H10 d (.lst ((cs++[pa]).map V.ref))):=e8.upd_new hd;have h11d:(c9 H10 d (.lst ((cs++[pa]).map V.ref))) d=some (.lst ((cs++[pa]).map V.ref)):=c8;generalize (c9 H10 d (.lst ((cs++[pa]).map V.ref)))=H11 at s11 h11d ⊢;refine ⟨_,rfl,(show 2<=sizeLine by decide),fun t2 ht2=> ?_⟩;have s12:e8 H11 (c9 H11 t2 (.tup [.ref d,.ref pl])):=e8.upd_new ht2;have h12t:(c9 H11 t2 (.tup [.ref d,.ref pl])) t2=some (.tup [.ref d,.ref pl]):=c8;generalize (c9 H11 t2 (.tup [.ref d,.ref pl]))=H12 at s12 h12t ⊢;have s911:=s10.trans s11;have s912:=s911.trans s12;have nd:d∉L::zs:=(th9.keep s10).out hd;have nt2:t2∉L::zs:=(th9.keep s911).out ht2;refine ⟨L,_,_,rfl,rfl,s912 _ _ h9L,dw0 (show _<=2000 by rw[ds1];omega) (by decide),?_⟩;rw[show us.map V.ref++[V.ref t2]=(us++[t2]).map V.ref by rw[dt1];rfl];refine ⟨us++[t2],_,_,rfl,c8,?_,(kb9.trans (s912.but L)).upd_a⟩;rw[bf7 ds5,i7 hnx,<-du2];refine E1.snoc (at9.imp fun t x _ h=>h.keep (D3 s912)) ?_;refine ⟨d,pl,cs++[pa],pas,by rw[J7 nt2];exact h12t,by rw[J7 nd];exact s12 _ _ h11d,?_,D3 s912 _ _ q3,t9 q4 fun b _ u e=>D3 s912 _ _ e⟩;exact K7 (t9 g3' fun b _ u e=>D3 s912 _ _ e) (D3 s912 _ _ q2)
       · rintro σ H9 ⟨us,v7,v8,rfl,h9L,at9,kb9⟩;refine ⟨us,_,_,v7,v8,rfl,h9L,?_,kb7.trans ((s8.but L).trans kb9)⟩;rw[i7 hx,eb8,dy7,ee0,du8];rw[ds1,lenP,show (D4 x.2 x.2.length).length=(nxC x).length by unfold nxC;rw[ds1],du7] at at9;exact at9
     · rintro σ H7 ⟨us,v5,v6,v7,v8,rfl,h7L,atu,kb7⟩;rw[ds1,ats.1,du7] at atu;exact ⟨_,rfl,L,us,_,_,_,_,_,_,rfl,h7L,atu.imp fun t x _ h=>h.keep bt9,(s05.trans s6).kb kb7 hL0,hL0⟩
   · rintro σ H5 ⟨F,ts,v3,v4,v5,v6,v7,v8,rfl,h5F,ats,s05,hF⟩;exact ⟨_,rfl,q F ts H5 hF s05 h5F ats⟩
end
end My
namespace My
open PySem L2 Mth
section
variable {P:Program} {w:World} {K:PySem.W.Frag} {mg:Str->Option Value} {base:Heap}
def L9 (es:List (Int×Int)):List (o3×V):=es.map fun e=>((Sum.inl e.1:o3),V.int e.2)
def C8 (rs:List Int):List (Int×Int):=(dv4 rs.length).map fun j=>(rs.getD j 0,rs.getD ((j+1)%rs.length) 0)
theorem dc5 {es:List (Int×Int)}{k v:Int}(h:k∉es.map (·.1)):M5 (L9 es) (Sum.inl k:o3) (.int v)=L9 (es++[(k,v)]):=by
 have ki:KI (L9 es) (es.map (·.1)):=by unfold KI L9;rw[dw5,dw5];rfl
 rw[au9 _ (da3 ki h)];unfold L9;rw[dt1];rfl
def as1:Sp:=fun vs H Q _=>∃(d r:Addr) (es:List (Int×Int)) (rs:List Int),vs=[.ref d,.ref r,.int 1]/\H d=some (.dK (L9 es))/\H r=some (.lst (rs.map V.int))/\rs.Nodup/\(∀x∈rs,x∉es.map (·.1))/\es.length<=400/\rs.length<=400/\∀(H':Hp),H' d=some (.dK (L9 (es++C8 rs)))->i8 d H H'->Q .non H'
theorem Z9:l8 ["target","ring","steps","place","thing"] ["target","ring","steps"] (j5 O8):=by rfl'
theorem bl4 {f:Addr}{fd:FuncData}(F:x6 K "send_along" "send_along" O8 f fd)(B:Bl mg):o7 P w K mg base x5 1 f fd ["target","ring","steps"] as1:=by
 refine F.ok Z9 (fun vs H Q E h=> ?_) (fun cdv A outer s H vs Q E hr h=> ?_)
 · obtain ⟨d,r,es,rs,rfl,hd,hrr,nd,dis,le,lr,q⟩:=h;rfl
 · obtain ⟨d,r,es,rs,rfl,hd,hrr,nd,dis,le,lr,q⟩:=h;have hu:=X1 hr;refine ⟨_,@e7 _ _ _ (@l9 _ _ _ _ _ _ _ _ PassesOwn.never rfl (@ai1 _ _ _ _ _ _ _ _ B.enum (@c5 _ _ _ _ _ (pv 1) (@c6 _) (by rfl)) (by rfl) (by rfl)) (@T9 _ _ _ _ _ _ rfl (@A3 _ _ _ _ _ (@i9 _ _ (3) _ Z9.nd rfl (Or.inl rfl) (by trivial)) (@A3 _ _ _ _ _ (@i9 _ _ (4) _ Z9.nd rfl (Or.inl rfl) (by trivial)) (@Q1 _) (by rfl)) (by rfl)) (by rfl) (by rfl)) (@e7 _ _ _ (@aq7 _ _ _ _ _ _ _ _ _ hu (pv 0) (pv 4) (@G9 _ _ _ _ _ _ _ C1 (pv 1) (@j6 _ _ _ _ _ _ _ _ R6 (@j6 _ _ _ _ _ _ _ _ x3 (pv 3) (pv 2)) (@y7 _ _ _ _ _ B.len (@c5 _ _ _ _ _ (pv 1) (@c6 _) (by rfl)) (by rfl) (by rfl))) (fun _ _=>rfl)) rfl)) (by intro _;rfl)),?_⟩
   have nrd:r≠d:=fun z=>by rw[z,hd] at hrr;cases hrr
   refine ⟨_,rfl,r,rfl,⟨_,i5.of hrr⟩,ac8 (K:=K) (a:=r) (xs:=rs.map V.int) (fun i σ H2=>∃(v3 v4:Option V),σ=[some (.ref d),some (.ref r),some (.int 1),v3,v4]/\H2 d=some (.dK (L9 (es++(C8 rs).take i)))/\i8 d H H2)
     ⟨none,none,rfl,by rw[eb9,du8];exact hd,i8.refl _ _⟩ (fun i σ H2 _ zz=>by obtain ⟨_,_,_,_,k⟩:=zz;exact i5.of (k _ _ hrr nrd)) ?_ ?_⟩
   · rintro i y σ H2 tt hi ⟨v3,v4,rfl,h2d,kb⟩ htt;obtain ⟨z,hz,rfl⟩:=C9 hi;have hil:i < rs.length:=(ds3.mp hz).1;have h2r:=kb r _ hrr nrd;have s3:e8 H2 (c9 H2 tt (.tup [.int (i:Int),.int z])):=e8.upd_new htt;have h3t:(c9 H2 tt (.tup [.int (i:Int),.int z])) tt=some (.tup [.int (i:Int),.int z]):=c8;generalize (c9 H2 tt (.tup [.int (i:Int),.int z]))=H3 at s3 h3t ⊢;refine ⟨tt,_,rfl,T2.of h3t,rfl,_,_,rfl,_,_,rfl,rfl,?_⟩;have h3r:=s3 _ _ h2r
     have em:((i:Int)+1)%(rs.length:Int)=(((i+1)%rs.length:Nat):Int):=by rw[ec9];rfl
     have ml:(i+1)%rs.length < rs.length:=ea6 _ (by omega);refine ⟨_,rfl,_,rfl,_,rfl,_,_,rfl,rfl,_,rfl,r,_,rfl,.inl (i5.of h3r),_,_,rfl,rfl,by rw[ds1];omega,r,_,_,_,rfl,rfl,i5.of h3r,(show atI _ _=some (.int (rs.getD ((i+1)%rs.length) 0)) from ?_),?_⟩
     · rw[ds1,em];refine K1 ?_;rw[ds9,ds2 ml,ds7,ds2 ml];rfl
     have lse:(C8 rs).length=rs.length:=by unfold C8;rw[ds1,dw1]
     have hse:(C8 rs)[i]? =some (z,rs.getD ((i+1)%rs.length) 0):=by
       unfold C8;rw[ds9,dw9 hil];show some (rs.getD i 0,rs.getD ((i+1)%rs.length) 0)=_;rw[show rs.getD i 0=z by rw[ds7,hz];rfl]
     have nz:z∉(es++(C8 rs).take i).map (·.1):=by
       rw[dt1];intro hz2
       rcases dt4.mp hz2 with w|w
       · exact dis z (dt2 hz) w
       · obtain ⟨e,he,ee⟩:=dt0.mp w;obtain ⟨j,hj⟩:=dv7.mp he;rw[ej0] at hj
         by_cases c:j < i
         · rw[if_pos c] at hj;unfold C8 at hj;rw[ds9,dw9 (by omega)] at hj;cases hj
           have e2:rs[j]? =some z:=by
             rw[ds2 (by omega)];have ee:rs.getD j 0=z:=ee;rw[ds7,ds2 (by omega)] at ee;exact congrArg some ee
           have:=aa5 nd (i:=j) (j:=i) (by omega) hil (by omega);rw[ds7,ds7,e2,hz] at this;exact this rfl
         · rw[if_neg c] at hj;cases hj
     have lk:(L9 (es++(C8 rs).take i)).length<=900:=by
       unfold L9;rw[ds1,ds8,du1,lse];omega
     refine ⟨_,rfl,_,rfl,d,_,rfl,ag1.k (k:=Sum.inl z) (s3 _ _ h2d) (o9 (by omega)),?_⟩;rw[dc5 nz];refine ⟨_,_,rfl,?_,(kb.trans (s3.but d)).upd_a⟩;rw[c8,i7 hse,<-du2]
   · rintro σ H2 ⟨v3,v4,rfl,h2d,kb⟩
     have lse:(C8 rs).length=rs.length:=by unfold C8;rw[ds1,dw1]
     rw[ds1,<-lse,du7] at h2d;exact q H2 h2d kb
end
end My
namespace My
open PySem L2 Mth
section
theorem bu1 (r:List Int)(b:Nat):(r.drop b++r.take b).Perm r:=ea1.trans (by rw[dx2])
theorem bk0 {rs:List (List Int)}:∀(i:Nat) {y:List Int×List (List Int)},i<=rs.length->y∈D4 rs i->(y.1++y.2.flatten).Perm rs.flatten/\y.2.length+1=rs.length/\∃r∈rs,y.1.Perm r
 |0,y,_,h=>by cases h
 |i+1,y,hi,h=>by
  rcases dt4.mp h with z|z
  · exact bk0 i (by omega) z
  · obtain ⟨b,_,rfl⟩:=dt0.mp z
    have il:i < rs.length:=by omega
    have eg:rs.getD i []=rs[i]:=by rw[ds7,ds2 il];rfl
    refine ⟨?_,?_,rs[i],dw2 _,?_⟩
    · show (((rs.getD i []).drop b++(rs.getD i []).take b)++(rs.take i++rs.drop (i+1)).flatten).Perm rs.flatten
      have e:rs.flatten=(rs.take i).flatten++(rs[i]++(rs.drop (i+1)).flatten):=by
        rw[<-dt9,<-dx0,<-ea5 il,dx2]
      rw[e,eg,dx0];refine ((bu1 _ b).append_right _).trans ?_;rw[<-du2,<-du2];exact ea1.append_right _
    · show (rs.take i++rs.drop (i+1)).length+1=_;rw[ds8,du1,dx1];omega
    · show ((rs.getD i []).drop b++(rs.getD i []).take b).Perm _;rw[eg];exact bu1 _ b
structure dc6 (l:Nat)(rs:List (List Int))(k:Nat)(x:List (List Int)×List (List Int)):Prop where
 perm:(x.1.flatten++x.2.flatten).Perm rs.flatten
 len:x.1.length=k+1
 left:x.2.length+(k+1)=rs.length
 rows:∀r∈x.1,r.length=l
 rows2:∀r∈x.2,r∈rs
theorem D6 {l:Nat}{rs:List (List Int)}(hl:∀r∈rs,r.length=l):∀(k:Nat) {x:List (List Int)×List (List Int)},k < rs.length->x∈v9 rs k->dc6 l rs k x
 |0,x,hk,h=>by
  rw[dt3.mp h]
  cases rs with
  |nil=>simp at hk
  |cons r rs=>
   refine ⟨?_,rfl,rfl,fun r' hr=> ?_,fun r' hr=>ds6 _ hr⟩
   · show ([r].flatten++rs.flatten).Perm (r::rs).flatten;simp
   · rw[dt3.mp hr];exact hl r ds5
 |k+1,x,hk,h=>by
  obtain ⟨x',h',z⟩:=dx7.mp h;obtain ⟨y,hy,rfl⟩:=dt0.mp z;have o:=D6 hl k (by omega) h';obtain ⟨p1,p2,r,hr,p3⟩:=bk0 _ (ds4 _) hy;refine ⟨?_,?_,?_,fun r' hr'=> ?_,fun r' hr'=>o.rows2 r' ((ax1 _ hy).2 r' hr')⟩
  · show ((x'.1++[y.1]).flatten++y.2.flatten).Perm _;rw[dx0,dz6,du2];exact (p1.append_left _).trans o.perm
  · show (x'.1++[y.1]).length=_;rw[ds8,o.len];rfl
  · show y.2.length+(k+1+1)=_;have:=o.left;omega
  · rcases dt4.mp hr' with w|w
    · exact o.rows r' w
    · rw[dt3.mp w,p3.length_eq];exact hl r (o.rows2 r hr)
theorem bk1 {l:Nat}{rs:List (List Int)}(hl:∀r∈rs,r.length=l):∀i,i<=rs.length->(D4 rs i).length=i*l
 |0,_=>by rw[ed7];rfl
 |i+1,hi=>by
  show (D4 rs i++Y3 rs i (rs.getD i [])).length=_;rw[ds8,bk1 hl i (by omega)];unfold Y3;rw[ds1,dw1,ds7,ds2 (show i < rs.length by omega)];show i*l+(rs[i]).length=_;rw[hl _ (dw2 _),Nat.add_mul,eo1]
theorem ae2 {α β:Type}{f:α->List β}{c:Nat}:∀{xs:List α},(∀x∈xs,(f x).length=c)->(xs.flatMap f).length=xs.length*c
 |[],_=>by rw[ef0,ed7];rfl
 |x::xs,h=>by
  rw[dy7,ds8,h x ds5,ae2 fun y hy=>h y (ds6 _ hy),dv9,Nat.add_mul,eo1,ec4]
theorem al7 {l:Nat}{rs:List (List Int)}(hl:∀r∈rs,r.length=l):∀k,k < rs.length->(v9 rs k).length=w6 rs.length l k
 |0,_=>rfl
 |k+1,hk=>by
  show ((v9 rs k).flatMap nxC).length=w6 rs.length l k*(rs.length - (k+1))*l;rw[ae2 (c:=(rs.length - (k+1))*l) fun x hx=> ?_,al7 hl k (by omega),dx3];have o:=D6 hl k (by omega) hx;unfold nxC;rw[ds1,bk1 (fun r hr=>hl r (o.rows2 r hr)) _ (ds4 _)];have:=o.left;rw[show x.2.length=rs.length - (k+1) by omega]
open Classical in
noncomputable def C0 (l m:Nat)(Rs:List (List Int)):List Int:=if h:∃J,C5 l (m/Rs.length) Rs J then Classical.choose h else []
theorem ax2 {l m k:Nat}{Rs:List (List Int)}{J:List Int}(l0:0 < l)(r0:1<=Rs.length)(em:m=Rs.length*k)(c:du0 l k=1)(h:C5 l k Rs J):C0 l m Rs=J:=by
 have ek:m/Rs.length=k:=by rw[em];exact dy9 k r0
 have ex:∃J,C5 l (m/Rs.length) Rs J:=⟨J,by rw[ek];exact h⟩;unfold C0;rw[dif_pos ex];exact C5.uniq l0 (by rw[ek];exact c) (Classical.choose_spec ex) (by rw[ek];exact h)
noncomputable def N0 (l m:Nat)(w:List (List (List Int))):List (Int×Int):=w.flatMap fun c=>C8 (C0 l m c)
theorem bu2 (l m:Nat)(w:List (List (List Int)))(c:List (List Int)):N0 l m (w++[c])=N0 l m w++C8 (C0 l m c):=by
 unfold N0;rw[eb8,dy7,ee0,du8]
def Q9 (f:List (List Int)->List (List (List (List Int))))(rs:List (List Int))(d:Nat):List (List (List (List Int))):=if d<=rs.length then (v9 rs (d - 1)).flatMap fun x=>(f x.2).map fun w=>w++[x.1] else []
def A6 (ds:List Nat):Nat->List (List Int)->List (List (List (List Int)))
 |0,_=>[[]]
 |f+1,rs=>if rs.length=0 then [[]] else ds.flatMap (Q9 (A6 ds f) rs)
theorem al8 (J:List Int):(C8 J).map (·.1)=J:=by
 unfold C8;rw[dw5]
 refine dx9 fun i=> ?_
 rw[ds9]
 by_cases h:i < J.length
 · rw[dw9 h,ds2 h];show some (J.getD i 0)=_;rw[ds7,ds2 h];rfl
 · rw[dt5 (by rw[dw1];omega),dt5 (by omega)];rfl
def M1 (l m d:Nat):Prop:=1<=d/\du0 (d*l) m=d
theorem M1.parts {l m d:Nat}(h:M1 l m d)(m1:1<=m):∃k,m=d*k/\du0 l k=1:=by
 obtain ⟨d1,e⟩:=h
 have dm:d∣m:=by
   have:=ea2 (d*l) m;rw[e] at this;exact this
 obtain ⟨k,rfl⟩:=dm;refine ⟨k,rfl,?_⟩;rw[en1] at e
 have:d*du0 l k=d*1:=by rw[e,ed6]
 exact eb7 d1 this
theorem cu1 {l m:Nat}{Rs:List (List Int)}(l0:0 < l)(m1:1<=m)(h:M1 l m Rs.length){J:List Int}{k:Nat}(ek:m=Rs.length*k)(j:C5 l k Rs J):C0 l m Rs=J/\J.Perm Rs.flatten:=by
 obtain ⟨k',e1,e2⟩:=h.parts m1;have:k'=k:=eb7 h.1 (by rw[<-e1,<-ek]);subst this;exact ⟨ax2 l0 h.1 ek e2 j,j.perm l0 e2⟩
structure dn3 (l m:Nat)(ds:List Nat)(rs:List (List Int))(w:List (List (List Int))):Prop where
 perm:(w.map eh9).flatten.Perm rs.flatten
 right:∀c∈w,c.length∈ds/\∀r∈c,r.length=l
theorem bb9 {l m:Nat}{ds:List Nat}(hd:∀d∈ds,1<=d):∀(f:Nat) {rs:List (List Int)} {w:List (List (List Int))},rs.length<=f->(∀r∈rs,r.length=l)->w∈A6 ds f rs->dn3 l m ds rs w
 |0,rs,w,hf,hl,h=>by
  have e:rs=[]:=eg3.mp (by omega);rw[dt3.mp h,e];exact ⟨List.Perm.refl _,fun c hc=>by cases hc⟩
 |f+1,rs,w,hf,hl,h=>by
  unfold A6 at h
  by_cases c:rs.length=0
  · rw[if_pos c] at h;have e:rs=[]:=eg3.mp c;rw[dt3.mp h,e];exact ⟨List.Perm.refl _,fun c hc=>by cases hc⟩
  · rw[if_neg c] at h;obtain ⟨d,hdm,h⟩:=dx7.mp h;unfold Q9 at h
    by_cases c2:d<=rs.length
    · rw[if_pos c2] at h;obtain ⟨x,hx,h⟩:=dx7.mp h;obtain ⟨w',hw',rfl⟩:=dt0.mp h;have d1:=hd d hdm;have o:=D6 hl (d - 1) (by omega) hx;have i:=bb9 (m:=m) hd f (rs:=x.2) (w:=w') (by have:=o.left;omega) (fun r hr=>hl r (o.rows2 r hr)) hw';refine ⟨?_,fun c hc=> ?_⟩
      · rw[dt1,dx0];show ((w'.map eh9).flatten++[x.1.flatten].flatten).Perm _;rw[dz6];exact (ea1.trans (i.perm.append_left _)).trans o.perm
      · rcases dt4.mp hc with z|z
        · exact i.right c z
        · rw[dt3.mp z];exact ⟨by rw[o.len,ee2 d1];exact hdm,o.rows⟩
    · rw[if_neg c2] at h;cases h
end
end My
namespace My
open PySem L2 Mth
section
variable {P:Program} {w:World} {K:PySem.W.Frag} {mg:Str->Option Value} {base:Heap}
def Few (ds:List Nat):Nat->List (List Int)->Prop
 |0,_=>True
 |f+1,rs=>(∀d∈ds,d<=rs.length->(∀k,k < d->(v9 rs k).length<=2000)/\∀x∈v9 rs (d - 1),Few ds f x.2)/\(A6 ds (f+1) rs).length<=2000
def as2 (l m:Nat)(H:Hp)(u:Addr)(w:List (List (List Int))):Prop:=H u=some (.dK (L9 (N0 l m w)))
def aj3 (f:Nat):Sp:=fun vs H Q _=>∃(l:Addr) (as:List Addr) (rs:List (List Int)) (ra:Addr) (ds:List Nat) (len m:Nat),vs=[.ref l,.ref ra,.int (m:Int)]/\H l=some (.lst (as.map V.ref))/\m9 H as rs/\H ra=some (.lst ((D2 ds).map V.int))/\rs.length<=f/\(∀r∈rs,r.length=len)/\0 < len/\rs.length*len<=40/\rs.flatten.Nodup/\1<=m/\(∀d∈ds,M1 len m d)/\Few ds f rs/\
 ∀(o:Addr) (us:List Addr) (H':Hp),H o=none->e8 H H'->H' o=some (.lst (us.map V.ref))->us.Nodup->(∀u∈us,H u=none)->E1 (as2 len m H') us (A6 ds f rs)->Q (.ref o) H'
theorem Q0 {l:Nat}{rs:List (List Int)}(h:∀r∈rs,r.length=l):rs.flatten.length=rs.length*l:=by
 rw[show rs.flatten=rs.flatMap id by rw[List.flatMap_id]];exact ae2 h
theorem bk2 {l m:Nat}{c:List (List Int)}(l0:0 < l)(m1:1<=m)(h:M1 l m c.length):(∀x∈C0 l m c,x∈c.flatten)/\(C0 l m c).length<=c.flatten.length:=by
 unfold C0
 by_cases ex:∃J,C5 l (m/c.length) c J
 · rw[dif_pos ex];obtain ⟨k,e1,e2⟩:=h.parts m1
   have ek:m/c.length=k:=by rw[e1];exact dy9 k h.1
   have pm:=(Classical.choose_spec ex).perm l0 (by rw[ek];exact e2);exact ⟨fun x hx=>pm.mem_iff.mp hx,eh8 pm.length_eq⟩
 · rw[dif_neg ex];exact ⟨(fun x hx=>by cases hx),du3 _⟩
theorem ae3 {l m:Nat}(l0:0 < l)(m1:1<=m):∀(w:List (List (List Int))),(∀c∈w,M1 l m c.length)->(∀x∈(N0 l m w).map (·.1),x∈(w.map eh9).flatten)/\(N0 l m w).length<=(w.map eh9).flatten.length
 |[],_=>⟨(fun x hx=>by cases hx),ds4 _⟩
 |c::w,h=>by
  obtain ⟨a,b⟩:=ae3 l0 m1 w fun c hc=>h c (ds6 _ hc)
  obtain ⟨a2,b2⟩:=bk2 l0 m1 (h c ds5)
  have e:N0 l m (c::w)=C8 (C0 l m c)++N0 l m w:=by unfold N0;rw[dy7]
  rw[e,du9,dt9,dt1,al8,ds8,ds8];refine ⟨fun x hx=> ?_,?_⟩
  · rcases dt4.mp hx with z|z
    · exact dy4 _ (a2 x z)
    · exact dv5 _ (a x z)
  · have:(C8 (C0 l m c)).length=(C0 l m c).length:=by unfold C8;rw[ds1,dw1]
    omega
theorem bf9 {α β:Type}{f:α->List β}{xs:List α}{i:Nat}{x:α}(h:xs[i]? =some x):((xs.take i).flatMap f).length+(f x).length<=(xs.flatMap f).length:=by
 have jl:=(ds3.mp h).1;have e3:=(ds3.mp h).2
 have ex:xs=xs.take i++x::xs.drop (i+1):=by rw[<-e3,<-ea5 jl,dx2]
 have e4:=congrArg (fun z=>(z.flatMap f).length) ex;simp only[eb8,dy7,ds8] at e4;omega
theorem cb3 {H:Hp}{e l:Addr}(he:H e=none)(hl:(c9 H e (.dK [])) l=none)(len m:Nat):H l=none/\e8 H (c9 (c9 H e (.dK [])) l (.lst [V.ref e]))/\E1 (as2 len m (c9 (c9 H e (.dK [])) l (.lst [V.ref e]))) [e] [[]]:=by
 have n:l≠e:=fun z=>by rw[z,c8] at hl;cases hl
 have hl0:H l=none:=by rw[g8 n] at hl;exact hl
 refine ⟨hl0,(e8.upd_new he).upd_r hl0,rfl,fun j t x e1 e2=> ?_⟩
 rcases j with _|j
 · cases e1;cases e2;show (c9 (c9 H e (.dK [])) l (.lst [V.ref e])) e=_;rw[g8 n.symm,c8];rfl
 · cases e1
theorem p9:l8 ["rings","right","m","ways","part","chain","left","joined","way"] ["rings","right","m"] (j5 Q6):=by rfl'
theorem bc0 {f:Addr}{fd:FuncData}(F:x6 K "ways_to_join" "ways_to_join" Q6 f fd)(B:Bl mg)(ztz:j7 P w K mg base "chains_of" 2 ["rings","part"] al6)(zv:j7 P w K mg base "join_rings" 1 ["rings","m"] ao9)(zvz:j7 P w K mg base "send_along" 1 ["target","ring","steps"] (bq2 ao7 as1)):o7 P w K mg base x5 3 f fd ["rings","right","m"] (aj3 0):=by
 refine F.ok p9 (fun vs H Q E h=> ?_) (fun cdv A outer s H vs Q E hr h=> ?_)
 · obtain ⟨l,as,rs,ra,ds,len,m,rfl,hl,rows,hra,lf,hlen,len0,l40,nd,m1,rt,few,q⟩:=h;rfl
 · obtain ⟨l,as,rs,ra,ds,len,m,rfl,hl,rows,hra,lf,hlen,len0,l40,nd,m1,rt,few,q⟩:=h;have zmy:l6 2 _:=hr.mono (by decide);have znx:l6 1 _:=hr.mono (by decide);have zm:l6 1 _:=hr.mono (by decide);refine ⟨_,@c7 _ _ _ _ _ (@y9 _ _ _ _ _ _ _ _ (@t6 _ _ _ _ _ _ _ _ U0 (@y7 _ _ _ _ _ B.len (@c5 _ _ _ _ _ (pv 0) (@c6 _) (by rfl)) (by rfl) (by rfl)) (@g7 _ _ _ _) (q5 _)) (@e7 _ _ _ (@l5 _ _ _ _ (@p8 _ _ _ _ (@c5 _ _ _ _ _ (@ac5 _ _) (@c6 _) (by rfl))))) (@q0 _)) (@c7 _ _ _ _ _ (@i6 _ _ (3) _ _ _ _ p9.nd rfl (Or.inl rfl) (@p8 _ _ _ _ (@c6 _)) (by rfl) (by trivial)) (@c7 _ _ _ _ _ (@l9 _ _ _ _ _ _ _ _ PassesOwn.never rfl (@t5 _ _ _ _ (pv 1)) (@i9 _ _ (4) _ p9.nd rfl (Or.inl rfl) (by trivial)) (@e7 _ _ _ (@y9 _ _ _ _ _ _ _ _ (@t6 _ _ _ _ _ _ _ _ ay3 (pv 4) (@y7 _ _ _ _ _ B.len (@c5 _ _ _ _ _ (pv 0) (@c6 _) (by rfl)) (by rfl) (by rfl)) (q5 _)) (@e7 _ _ _ (@l9 _ _ _ _ _ _ _ _ PassesOwn.never rfl (@t5 _ _ _ _ (@i4 _ _ _ _ _ _ _ _ _ _ ztz zmy (@c5 _ _ _ _ _ (pv 0) (@c5 _ _ _ _ _ (pv 4) (@c6 _) (by rfl)) (by rfl)) (by rfl) (by decide) (by rfl) (by rfl))) (@T9 _ _ _ _ _ _ rfl (@A3 _ _ _ _ _ (@i9 _ _ (5) _ p9.nd rfl (Or.inl rfl) (by trivial)) (@A3 _ _ _ _ _ (@i9 _ _ (6) _ p9.nd rfl (Or.inl rfl) (by trivial)) (@Q1 _) (by rfl)) (by rfl)) (by rfl) (by rfl)) (@c7 _ _ _ _ _ (@i6 _ _ (7) _ _ _ _ p9.nd rfl (Or.inl rfl) (@i4 _ _ _ _ _ _ _ _ _ _ zv znx (@c5 _ _ _ _ _ (pv 5) (@c5 _ _ _ _ _ (pv 2) (@c6 _) (by rfl)) (by rfl)) (by rfl) (by decide) (by rfl) (by rfl)) (by rfl) (by trivial)) (@e7 _ _ _ (@l9 _ _ _ _ _ _ _ _ PassesOwn.never rfl (@t5 _ _ _ _ (@bq3 _ _)) (@i9 _ _ (8) _ p9.nd rfl (Or.inl rfl) (by trivial)) (@c7 _ _ _ _ _ (@p7 _ _ _ _ (@i4 _ _ _ _ _ _ _ _ _ _ zvz zm (@c5 _ _ _ _ _ (pv 8) (@c5 _ _ _ _ _ (pv 7) (@c5 _ _ _ _ _ (@g7 _ _ _ _) (@c6 _) (by rfl)) (by rfl)) (by rfl)) (by rfl) (by decide) (by rfl) (by rfl)) (by rfl)) (@e7 _ _ _ (@p7 _ _ _ _ (@x8 _ _ _ _ _ _ _ (pv 3) (@c5 _ _ _ _ _ (pv 8) (@c6 _) (by rfl)) (by rfl) (by rfl) (by rfl) (by rfl) (by rfl)) (by rfl)))) (by intro _;rfl)))) (by intro _;rfl))) (@q0 _))) (by intro _;rfl)) (@e7 _ _ _ (@l5 _ _ _ _ (pv 3))))),?_⟩;refine ⟨_,rfl,l,_,rfl,.inl (i5.of hl),rfl,_,rfl,?_⟩;rw[ds1,rows.1,show rs.length=0 by omega];refine M6 (fun _=> ?_) (fun h=>absurd (decide_eq_true rfl) h)
   refine fun e he=>⟨(show 1<=sizeLine by decide),fun o ho=> ?_⟩
   obtain ⟨a1,a2,a3⟩:=cb3 he ho len m;exact q o [e] _ a1 a2 c8 (by simp) (fun b hb=>by rw[dt3.mp hb];exact he) a3
theorem ax3 {d k:Nat}{f:Addr}{fd:FuncData}(F:x6 K "ways_to_join" "ways_to_join" Q6 f fd)(B:Bl mg)(ztz:j7 P w K mg base "chains_of" 2 ["rings","part"] al6)(zv:j7 P w K mg base "join_rings" 1 ["rings","m"] ao9)(zuy:j7 P w K mg base "ways_to_join" (k+3) ["rings","right","m"] (aj3 d))(zvz:j7 P w K mg base "send_along" 1 ["target","ring","steps"] (bq2 ao7 as1)):o7 P w K mg base x5 (k+3+1) f fd ["rings","right","m"] (aj3 (d+1)):=by
 refine F.ok p9 (fun vs H Q E h=> ?_) (fun cdv A outer s H vs Q E hr h=> ?_)
 · obtain ⟨l,as,rs,ra,ds,len,m,rfl,hl,rows,hra,lf,hlen,len0,l40,nd,m1,rt,few,q⟩:=h;rfl
 · obtain ⟨l,as,rs,ra,ds,len,m,rfl,hl,rows,hra,lf,hlen,len0,l40,nd,m1,rt,few,q⟩:=h;have zmy:l6 2 _:=hr.mono (by omega);have znx:l6 1 _:=hr.mono (by omega);have zq:l6 (k+3) _:=hr.mono (by omega);have zm:l6 1 _:=hr.mono (by omega);refine ⟨_,@c7 _ _ _ _ _ (@y9 _ _ _ _ _ _ _ _ (@t6 _ _ _ _ _ _ _ _ U0 (@y7 _ _ _ _ _ B.len (@c5 _ _ _ _ _ (pv 0) (@c6 _) (by rfl)) (by rfl) (by rfl)) (@g7 _ _ _ _) (q5 _)) (@e7 _ _ _ (@l5 _ _ _ _ (@p8 _ _ _ _ (@c5 _ _ _ _ _ (@ac5 _ _) (@c6 _) (by rfl))))) (@q0 _)) (@c7 _ _ _ _ _ (@i6 _ _ (3) _ _ _ _ p9.nd rfl (Or.inl rfl) (@p8 _ _ _ _ (@c6 _)) (by rfl) (by trivial)) (@c7 _ _ _ _ _ (@l9 _ _ _ _ _ _ _ _ PassesOwn.never rfl (@t5 _ _ _ _ (pv 1)) (@i9 _ _ (4) _ p9.nd rfl (Or.inl rfl) (by trivial)) (@e7 _ _ _ (@y9 _ _ _ _ _ _ _ _ (@t6 _ _ _ _ _ _ _ _ ay3 (pv 4) (@y7 _ _ _ _ _ B.len (@c5 _ _ _ _ _ (pv 0) (@c6 _) (by rfl)) (by rfl) (by rfl)) (q5 _)) (@e7 _ _ _ (@l9 _ _ _ _ _ _ _ _ PassesOwn.never rfl (@t5 _ _ _ _ (@i4 _ _ _ _ _ _ _ _ _ _ ztz zmy (@c5 _ _ _ _ _ (pv 0) (@c5 _ _ _ _ _ (pv 4) (@c6 _) (by rfl)) (by rfl)) (by rfl) (by decide) (by rfl) (by rfl))) (@T9 _ _ _ _ _ _ rfl (@A3 _ _ _ _ _ (@i9 _ _ (5) _ p9.nd rfl (Or.inl rfl) (by trivial)) (@A3 _ _ _ _ _ (@i9 _ _ (6) _ p9.nd rfl (Or.inl rfl) (by trivial)) (@Q1 _) (by rfl)) (by rfl)) (by rfl) (by rfl)) (@c7 _ _ _ _ _ (@i6 _ _ (7) _ _ _ _ p9.nd rfl (Or.inl rfl) (@i4 _ _ _ _ _ _ _ _ _ _ zv znx (@c5 _ _ _ _ _ (pv 5) (@c5 _ _ _ _ _ (pv 2) (@c6 _) (by rfl)) (by rfl)) (by rfl) (by decide) (by rfl) (by rfl)) (by rfl) (by trivial)) (@e7 _ _ _ (@l9 _ _ _ _ _ _ _ _ PassesOwn.never rfl (@t5 _ _ _ _ (@i4 _ _ _ _ _ _ _ _ _ _ zuy zq (@c5 _ _ _ _ _ (pv 6) (@c5 _ _ _ _ _ (pv 1) (@c5 _ _ _ _ _ (pv 2) (@c6 _) (by rfl)) (by rfl)) (by rfl)) (by rfl) (by decide) (by rfl) (by rfl))) (@i9 _ _ (8) _ p9.nd rfl (Or.inl rfl) (by trivial)) (@c7 _ _ _ _ _ (@p7 _ _ _ _ (@i4 _ _ _ _ _ _ _ _ _ _ zvz zm (@c5 _ _ _ _ _ (pv 8) (@c5 _ _ _ _ _ (pv 7) (@c5 _ _ _ _ _ (@g7 _ _ _ _) (@c6 _) (by rfl)) (by rfl)) (by rfl)) (by rfl) (by decide) (by rfl) (by rfl)) (by rfl)) (@e7 _ _ _ (@p7 _ _ _ _ (@x8 _ _ _ _ _ _ _ (pv 3) (@c5 _ _ _ _ _ (pv 8) (@c6 _) (by rfl)) (by rfl) (by rfl) (by rfl) (by rfl) (by rfl)) (by rfl)))) (by intro _;rfl)))) (by intro _;rfl))) (@q0 _))) (by intro _;rfl)) (@e7 _ _ _ (@l5 _ _ _ _ (pv 3))))),?_⟩;refine ⟨_,rfl,l,_,rfl,.inl (i5.of hl),rfl,_,rfl,?_⟩;rw[ds1,rows.1]
   by_cases c0:rs.length=0
   · rw[c0];refine M6 (fun _=> ?_) (fun h=>absurd (decide_eq_true rfl) h)
     refine fun e he=>⟨(show 1<=sizeLine by decide),fun o ho=> ?_⟩
     obtain ⟨a1,a2,a3⟩:=cb3 he ho len m;refine q o [e] _ a1 a2 c8 (by simp) (fun b hb=>by rw[dt3.mp hb];exact he) ?_;unfold A6;rw[if_pos c0];exact a3
   rw[decide_eq_false (fun z=>c0 (by have:=V.int.inj z;omega))];refine G5 ?_;refine ⟨du3 _,fun W hW=> ?_⟩;have s1:e8 H (c9 H W (.lst [])):=e8.upd_new hW;have h1W:(c9 H W (.lst [])) W=some (.lst (([]:List Addr).map V.ref)):=c8;generalize (c9 H W (.lst []))=H1 at s1 h1W ⊢;have nlW:l≠W:=g6 hl hW;have nrW:ra≠W:=g6 hra hW
   have ewf:A6 ds (d+1) rs=ds.flatMap (Q9 (A6 ds d) rs):=by
     show (if rs.length=0 then _ else _)=_;rw[if_neg c0]
   obtain ⟨few1,few2⟩:=few;rw[ewf] at few2
   have dsv:∀{i:Nat} {y:V},((D2 ds).map V.int)[i]? =some y->∃dd:Nat,ds[i]? =some dd/\y= .int (dd:Int):=fun {i y} h=>by
     unfold D2 at h;rw[ds9,ds9] at h
     cases e:ds[i]? with
     |none=>rw[e] at h;cases h
     |some a=>rw[e] at h;cases h;exact ⟨a,rfl,rfl⟩
   refine ⟨_,rfl,ra,rfl,⟨_,i5.of (s1 _ _ hra)⟩,w4 (K:=K) (a:=ra) (xs:=(D2 ds).map V.int) (fun i σ H2=>∃(us:List Addr) (v4 v5 v6 v7 v8:Option V),σ=[some (.ref l),some (.ref ra),some (.int (m:Int)),some (.ref W),v4,v5,v6,v7,v8]/\H2 W=some (.lst (us.map V.ref))/\us.Nodup/\(∀u∈us,H u=none)/\E1 (as2 len m H2) us ((ds.take i).flatMap (Q9 (A6 ds d) rs))/\e8 H H2)
     ⟨[],none,none,none,none,none,rfl,h1W,dz9,(fun u hu=>by cases hu),E1.nil,s1⟩ (fun i σ H2 _ zz=>by obtain ⟨_,_,_,_,_,_,_,_,_,_,_,k⟩:=zz;exact i5.of (k _ _ hra)) ?_ ?_⟩
   · rintro i y σ H2 hi ⟨us0,v4,v5,v6,v7,v8,rfl,h2W,und0,ufr0,atu0,s02⟩;obtain ⟨dd,hdd,rfl⟩:=dsv hi;have ddm:=dt2 hdd;have rdd:=rt dd ddm;refine ⟨_,rfl,_,rfl,l,_,rfl,.inl (i5.of (s02 _ _ hl)),_,_,rfl,rfl,_,rfl,?_⟩;rw[ds1,rows.1];rw[i7 hdd,eb8,dy7,ee0,du8]
     by_cases cd:dd<=rs.length
     · rw[decide_eq_true (show (dd:Int)<=(rs.length:Int) by omega)]
       have ewp:Q9 (A6 ds d) rs dd=(v9 rs (dd - 1)).flatMap fun x=>(A6 ds d x.2).map fun w=>w++[x.1]:=if_pos cd
       have tot:=bf9 (f:=Q9 (A6 ds d) rs) hdd;rw[ewp] at tot ⊢;obtain ⟨fewc,fewx⟩:=few1 dd ddm cd;have r40:rs.length<=40:=dt6 (dw6 _ len0) l40
       have row40:∀r∈rs,r.length<=40:=fun r hr=>by
         rw[hlen r hr];exact dt6 (eg9 _ (by omega)) l40
       obtain ⟨kk,emk,gk⟩:=rdd.parts m1;refine ac6 ⟨_,rfl,_,rfl,l,as,rs,[W],dd,rfl,s02 _ _ hl,fun z=>nlW (dt3.mp z),t9 rows fun b _ u e=>by rw[J7 fun z=>(g6 e hW) (dt3.mp z)];exact s02 _ _ e,fun z hz=>by rw[dt3.mp hz];exact ⟨_,h2W⟩,by omega,r40,row40,rdd.1,by omega,fewc,fun F ts H3 hF s3 h3F atc=> ?_⟩;have nFW:F≠W:=(g6 h2W hF).symm
       refine ⟨F,rfl,⟨_,i5.of h3F⟩,w4 (K:=K) (a:=F) (xs:=ts.map V.ref) (fun j σ H4=>∃(us:List Addr) (v5 v6 v7 v8:Option V),σ=[some (.ref l),some (.ref ra),some (.int (m:Int)),some (.ref W),some (.int (dd:Int)),v5,v6,v7,v8]/\H4 W=some (.lst (us.map V.ref))/\us.Nodup/\(∀u∈us,H u=none)/\E1 (as2 len m H4) us ((ds.take i).flatMap (Q9 (A6 ds d) rs)++((v9 rs (dd - 1)).take j).flatMap fun x=>(A6 ds d x.2).map fun w=>w++[x.1])/\i8 W H3 H4)
         ⟨us0,v5,v6,v7,v8,rfl,s3 _ _ h2W,und0,ufr0,by rw[eb9,ee0,du8];exact atu0.imp fun u w _ h=>s3 _ _ h,i8.refl _ _⟩ (fun j σ H4 _ zz=>by obtain ⟨_,_,_,_,_,_,_,_,_,_,k⟩:=zz;exact i5.of (k _ _ h3F nFW)) ?_ ?_⟩
       · rintro j y σ H4 hj ⟨us,v5,v6,v7,v8,rfl,h4W,und,ufr,atu,kb4⟩
         obtain ⟨t,ht,rfl⟩:∃t,ts[j]? =some t/\y=V.ref t:=by
           rw[ds9] at hj
           cases e:ts[j]? with
           |none=>rw[e] at hj;cases hj
           |some a=>rw[e] at hj;exact ⟨a,rfl,(Option.some.inj hj).symm⟩
         obtain ⟨x,hx,cx⟩:=atc.get ht;obtain ⟨c,xl,cs,bs,g1,g2,g3,g4,g5⟩:=(cx.keep (T1 ds5 kb4)).keep (bt7 _ _);have xm:=dt2 hx;have ok:=D6 hlen (dd - 1) (by have:=rdd.1;omega) xm
         have x1l:x.1.length=dd:=by rw[ok.len];have:=rdd.1;omega
         have fewr:=fewx x xm;have s04:e8 H H4:=(s02.trans s3).kb kb4 hW;refine ⟨t,_,rfl,T2.of g1,rfl,_,_,rfl,_,_,rfl,rfl,?_⟩;refine ⟨_,rfl,_,rfl,c,cs,x.1,len,kk,by rw[x1l,<-emk];rfl,g2,g3,by have:=rdd.1;omega,ok.rows,len0,by rw[x1l];exact dt6 (dz5 _ cd) l40,gk,fun jo J H5 hjo s5 h5J jis=> ?_⟩;obtain ⟨ej,pj⟩:=cu1 len0 m1 (by rw[x1l];exact rdd) (by rw[x1l];exact emk) jis;have xnd:(x.1.flatten++x.2.flatten).Nodup:=ok.perm.nodup_iff.mpr nd;rw[dy3] at xnd
         have rl2:∀r∈x.2,r.length=len:=fun r hr=>hlen r (ok.rows2 r hr)
         have x2l:x.2.length<=d/\x.2.length<=rs.length:=by have:=ok.left;have:=rdd.1;omega
         have x240:x.2.length*len<=40:=dt6 (dz5 _ x2l.2) l40;refine ⟨_,rfl,_,rfl,_,rfl,xl,bs,x.2,ra,ds,len,m,rfl,s5 _ _ g4,t9 g5 fun b _ u e=>s5 _ _ e,s5 _ _ (s04 _ _ hra),x2l.1,rl2,len0,x240,xnd.2.1,m1,rt,fewr,fun o vs H6 ho s6 h6o vnd vfr atv=> ?_⟩;have n5W:=g6 h4W hjo;have h5W:=s5 _ _ h4W;have vno:∀u∈vs,H5 u=none:=vfr
         have jov:jo∉vs:=fun z=>by have:=vno jo z;rw[h5J] at this;cases this
         have Wv:W∉vs:=fun z=>by have:=vno W z;rw[h5W] at this;cases this
         have usv:∀u∈us,u∉vs:=fun u hu z=>by
           obtain ⟨jj,hjj⟩:=dv7.mp hu;obtain ⟨w,_,hw⟩:=atu.get hjj;have e:=vno u z;rw[s5 _ _ hw] at e;cases e
         have ov:o∉vs:=fun z=>by
           obtain ⟨jj,hjj⟩:=dv7.mp z;obtain ⟨w,_,hw⟩:=atv.get hjj;have hw:H6 o=_:=hw;rw[h6o] at hw;cases hw
         have noW:o≠W:=(g6 h5W ho).symm;have jnd:J.Nodup:=pj.nodup_iff.mpr xnd.1
         have jl40:J.length<=40:=by
           rw[pj.length_eq,Q0 ok.rows,x1l];exact dt6 (dz5 _ cd) l40
         have tot2:=bf9 (f:=fun x:List (List Int)×List (List Int)=>(A6 ds d x.2).map fun w=>w++[x.1]) hx;rw[ds1] at tot2;have aul:=atu.1;rw[ds8] at aul;have vl:=atv.1
         refine ⟨o,rfl,⟨_,i5.of h6o⟩,w4 (K:=K) (a:=o) (xs:=vs.map V.ref) (fun k σ H7=>∃(v8:Option V),σ=[some (.ref l),some (.ref ra),some (.int (m:Int)),some (.ref W),some (.int (dd:Int)),some (.ref c),some (.ref xl),some (.ref jo),v8]/\H7 W=some (.lst ((us++vs.take k).map V.ref))/\E1 (as2 len m H7) (us++vs.take k) (((ds.take i).flatMap (Q9 (A6 ds d) rs)++((v9 rs (dd - 1)).take j).flatMap fun x=>(A6 ds d x.2).map fun w=>w++[x.1])++((A6 ds d x.2).take k).map fun w=>w++[x.1])/\(∀jj,k<=jj->∀u w,vs[jj]? =some u->(A6 ds d x.2)[jj]? =some w->as2 len m H7 u w)/\(∀a u,a≠W->a∉vs->H6 a=some u->H7 a=some u))
           ⟨v8,rfl,by rw[eb9,du8];exact s6 _ _ h5W,by rw[eb9,eb9,ee7,du8,du8];exact atu.imp fun u w _ h=>s6 _ _ (s5 _ _ h),fun jj _ u w e1 e2=>atv.2 jj u w e1 e2,fun a u _ _ e=>e⟩ (fun k σ H7 _ zz=>by obtain ⟨_,_,_,_,_,kk⟩:=zz;exact i5.of (kk _ _ noW ov h6o)) ?_ ?_⟩
         · rintro k y σ H7 hk ⟨v8,rfl,h7W,at7,todo,keep7⟩
           obtain ⟨u,hu,rfl⟩:∃t,vs[k]? =some t/\y=V.ref t:=by
             rw[ds9] at hk
             cases e:vs[k]? with
             |none=>rw[e] at hk;cases hk
             |some a=>rw[e] at hk;exact ⟨a,rfl,(Option.some.inj hk).symm⟩
           obtain ⟨w,hw,_⟩:=atv.get hu;have h7u:H7 u=some (.dK (L9 (N0 len m w))):=todo k (ds4 _) u w hu hw;have um:=dt2 hu
           have nuW:u≠W:=fun z=>Wv (z▸um)
           have h7J:=keep7 jo _ n5W.symm jov (s6 _ _ h5J);have wok:=bb9 (m:=m) (fun dd h=>(rt dd h).1) d x2l.1 rl2 (dt2 hw)
           obtain ⟨es1,es2⟩:=ae3 len0 m1 w fun c hc=>rt _ (wok.right c hc).1
           have es3:(N0 len m w).length<=40:=by
             refine dt6 es2 ?_;rw[wok.perm.length_eq,Q0 rl2];exact x240
           refine ⟨_,rfl,_,rfl,.inr ⟨u,jo,N0 len m w,J,rfl,h7u,h7J,jnd,fun z hz hz2=> ?_,by omega,by omega,fun H8 h8u kb8=> ?_⟩⟩
           · exact xnd.2.2 z (pj.mem_iff.mp hz) z (wok.perm.mem_iff.mp (es1 z hz2)) rfl
           have h8W:=kb8 _ _ h7W nuW.symm;have ltk:(vs.take k).length<=vs.length:=List.length_take_le' _ _;refine ⟨_,rfl,.inl ⟨rfl,_,i5.of h8W⟩,_,rfl,W,_,_,rfl,rfl,h8W,dw0 (show _<=2000 by rw[ds1,ds8];omega) (by decide),?_⟩;rw[show (us++vs.take k).map V.ref++[V.ref u]=(us++vs.take (k+1)).map V.ref by rw[i7 hu,<-du2,dt1 (l₂:=[u])];rfl]
           have un:∀t∈us++vs.take k,t≠u:=fun t ht z=>by
             subst z
             rcases dt4.mp ht with y|y
             · exact usv t y um
             · obtain ⟨jj,hjj⟩:=dv7.mp y;rw[ej0] at hjj
               by_cases c:jj < k
               · rw[if_pos c] at hjj;have a1:=(ds3.mp hjj).1;have a2:=(ds3.mp hu).1;exact dv6.mp (du4.mp vnd) jj k a1 a2 c (by rw[(ds3.mp hjj).2,(ds3.mp hu).2])
               · rw[if_neg c] at hjj;cases hjj
           refine ⟨_,rfl,c8,?_,fun jj hjj u2 w2 e1 e2=> ?_,fun a v na nv e=> ?_⟩
           · have ea:us++vs.take (k+1)=(us++vs.take k)++[u]:=by rw[i7 hu,du2]
             have eb:((A6 ds d x.2).take (k+1)).map (fun w=>w++[x.1])=((A6 ds d x.2).take k).map (fun w=>w++[x.1])++[w++[x.1]]:=by rw[i7 hw,dt1];rfl
             rw[ea,eb,<-du2];refine E1.snoc (at7.imp fun t w2 ht h=> ?_) ?_
             · have h:H7 t=some (.dK (L9 (N0 len m w2))):=h;show c9 H8 W _ t=_;rw[g8 (show t≠W from fun z=>by rw[z,h7W] at h;cases h)];exact kb8 _ _ h (un t ht)
             · show c9 H8 W _ u=_;rw[g8 nuW,h8u,bu2,ej]
           · have h:=todo jj (by omega) u2 w2 e1 e2;have h:H7 u2=some (.dK (L9 (N0 len m w2))):=h;show c9 H8 W _ u2=_;rw[g8 (show u2≠W from fun z=>Wv (z▸dt2 e1))]
             refine kb8 _ _ h fun z=> ?_
             subst z;have a1:=(ds3.mp e1).1;have a2:=(ds3.mp hu).1;exact dv6.mp (du4.mp vnd) k jj a2 a1 (by omega) (by rw[(ds3.mp e1).2,(ds3.mp hu).2])
           · rw[g8 na]
             exact kb8 _ _ (keep7 a v na nv e) fun z=>nv (z▸um)
         · rintro σ H7 ⟨v8,rfl,h7W,at7,todo,keep7⟩;rw[ds1,du7] at h7W at7;rw[vl,du7] at at7;refine ⟨us++vs,_,_,_,v8,rfl,h7W,?_,fun u hu=> ?_,?_,fun a u e na=> ?_⟩
           · rw[dy3];exact ⟨und,vnd,fun a ha b hb e=>usv a ha (e▸hb)⟩
           · rcases dt4.mp hu with z|z
             · exact ufr u z
             · exact (s04.trans s5).free (vno u z)
           · rw[i7 hx,eb8,dy7,ee0,du8,<-du2];exact at7
           · have e5:=s5 _ _ (kb4 _ _ e na);exact keep7 a u na (fun z=>by have:=vno a z;rw[e5] at this;cases this) (s6 _ _ e5)
       · rintro σ H4 ⟨us,v5,v6,v7,v8,rfl,h4W,und,ufr,atu,kb4⟩;rw[ds1,atc.1,du7] at atu;exact ⟨us,_,_,_,_,_,rfl,h4W,und,ufr,atu,(s02.trans s3).kb kb4 hW⟩
     · rw[decide_eq_false (show ¬(dd:Int)<=(rs.length:Int) by omega)];have ewp:Q9 (A6 ds d) rs dd=[]:=if_neg cd;rw[ewp,du8];exact G5 ⟨us0,_,_,_,_,_,rfl,h2W,und0,ufr0,atu0,s02⟩
   · rintro σ H2 ⟨us,v4,v5,v6,v7,v8,rfl,h2W,und,ufr,atu,s02⟩;rw[show ((D2 ds).map V.int).length=ds.length by unfold D2;rw[ds1,ds1],du7,<-ewf] at atu;exact ⟨_,rfl,q W us H2 hW s02 h2W und ufr atu⟩
end
end My
namespace My
open PySem L2 Mth PySem.Spec PyProof.Rows
section
variable {P:Program} {w:World} {K:PySem.W.Frag} {mg:Str->Option Value} {base:Heap}
def di7 (td:TE):TI:=fun σ H R=>td σ H fun x H1=>∃d kvs,x= .ref d/\((H1 d=some (.dK kvs)/\∀o,R (Itd d o kvs) (c9 H1 d (.frz o (.dK kvs))))\/∃o,H1 d=some (.frz o (.dK kvs))/\R (Itd d o kvs) H1)
theorem cu2 {X:Cx}{tg l:Expr}{tl:TE}(hl:PE X l tl):PI X tg l (di7 tl):=by
 intro pins s σ H R I h
 refine p6 (hl pins s σ H _ I h) fun v s1 ⟨x,H1,I1,r1,q1⟩=> ?_
 obtain ⟨d,kvs,e,q⟩:=q1;subst e;cases r1
 rcases q with ⟨hH,q⟩|⟨o,hH,q⟩
 · obtain ⟨_,hsm,vs,rel,o,es,ep,ho,hc,hdat,rr⟩:=(show q9 X.prog X.w H1 s1.heap d (.dK kvs) from I1.hok d _ hH);have hat:s1.heap.DictAt (y6 X.prog X.w) d vs ep:=⟨o,es,ho,hc,hdat,rr⟩;have I2:=I1.freeze hH ho;refine wpAny_pyIter_dict hsm hat ?_;have hlen:kvs.length=vs.length:=rel.length;refine ⟨s1.heap.objs.size,[s1.heap.objs.size],_,_,_,rfl,I2.kept (t':=s1.toks) fun b o e=>Heap.get?_push_of_some _ e,ao0 d _ o kvs es ep hdat,⟨_,Heap.get?_push_size _ rfl,rfl,by rw[hlen];rfl⟩,fun b hb=> ?_,q o⟩
   have e:b=s1.heap.objs.size:=by simpa using hb
   subst e;exact I2.fpOk (ds4 _) (I2.hok.fresh (ds4 _))
 · obtain ⟨ho0,_,hsm,vs,rel,o',es,ep,ho,hc,hdat,rr⟩:=(show q9 X.prog X.w H1 s1.heap d (.frz o (.dK kvs)) from I1.hok d _ hH)
   have eo:o'=o:=by rw[ho0] at ho;exact (Option.some.inj ho).symm
   subst eo;have hat:s1.heap.DictAt (y6 X.prog X.w) d vs ep:=⟨o',es,ho,hc,hdat,rr⟩;refine wpAny_pyIter_dict hsm hat ?_;have hlen:kvs.length=vs.length:=rel.length;refine ⟨s1.heap.objs.size,[s1.heap.objs.size],_,_,_,rfl,I1.kept (t':=s1.toks) fun b o e=>Heap.get?_push_of_some _ e,ao0 d _ o' kvs es ep hdat,⟨_,Heap.get?_push_size _ rfl,rfl,by rw[hlen];rfl⟩,fun b hb=> ?_,q⟩
   have e:b=s1.heap.objs.size:=by simpa using hb
   subst e;exact I1.fpOk (ds4 _) (I1.hok.fresh (ds4 _))
def t7 (t:List Int)(es:List (Int×Int)):List Int:=es.foldl (fun t e=>t.set e.1.toNat e.2) t
theorem al9 (es:List (Int×Int)):∀t:List Int,(t7 t es).length=t.length:=by
 induction es with
 |nil=>intro t;rfl
 |cons e es ih=>intro t;show (t7 (t.set e.1.toNat e.2) es).length=_;rw[ih,ei6]
theorem bx7 (t:List Int)(es:List (Int×Int))(e:Int×Int):t7 t (es++[e])=(t7 t es).set e.1.toNat e.2:=by
 unfold t7;rw[ej9];rfl
def M8 (laid:List (List Int))(ways:List (List (Int×Int))):List (List Int):=laid.flatMap fun t=>ways.map (t7 t)
def M9 (p:List Int)(chs:List (List (List (Int×Int)))):List (List Int):=chs.foldl M8 [p]
theorem bc1 (p:List Int)(chs:List (List (List (Int×Int))))(c:List (List (Int×Int))):M9 p (chs++[c])=M8 (M9 p chs) c:=by
 unfold M9;rw[ej9];rfl
theorem cu3 {n:Nat}{laid:List (List Int)}{ways:List (List (Int×Int))}(h:∀t∈laid,t.length=n):∀t∈M8 laid ways,t.length=n:=fun t ht=>by
 obtain ⟨t',h',z⟩:=dx7.mp ht;obtain ⟨es,_,rfl⟩:=dt0.mp z;rw[al9];exact h t' h'
theorem bk3 (p:List Int)(chs:List (List (List (Int×Int)))):∀t∈M9 p chs,t.length=p.length:=by
 have g:∀(chs:List (List (List (Int×Int)))) (laid:List (List Int)),(∀t∈laid,t.length=p.length)->∀t∈chs.foldl M8 laid,t.length=p.length:=fun chs=>by
   induction chs with
   |nil=>intro laid h;exact h
   |cons c chs ih=>intro laid h;exact ih _ (cu3 h)
 exact g chs [p] fun t ht=>by rw[dt3.mp ht]
def am0 (H:Hp)(u:Addr)(es:List (Int×Int)):Prop:=H u=some (.dK (L9 es))\/∃o,H u=some (.frz o (.dK (L9 es)))
structure Kp (H H':Hp):Prop where
 nd:∀x u,H x=some u->(∀kvs,u≠.dK kvs)->H' x=some u
 tab:∀x es,am0 H x es->am0 H' x es
 fr:∀x,H' x=none->H x=none
theorem Kp.of {H H':Hp}(s:e8 H H'):Kp H H':=⟨fun x u e _=>s _ _ e,fun x es e=>e.elim (fun e=> .inl (s _ _ e)) fun ⟨o,e⟩=> .inr ⟨o,s _ _ e⟩,fun x e=>s.free e⟩
theorem Kp.trans {H H' H'':Hp}(a:Kp H H')(b:Kp H' H''):Kp H H'':=⟨fun x u e n=>b.nd x u (a.nd x u e n) n,fun x es e=>b.tab x es (a.tab x es e),fun x e=>a.fr x (b.fr x e)⟩
theorem Kp.lst {H H':Hp}(k:Kp H H'){a:Addr}{xs:List V}(e:H a=some (.lst xs)):H' a=some (.lst xs):=k.nd a _ e (fun kvs z=>by cases z)
theorem Kp.rows {H H':Hp}(k:Kp H H'){as:List Addr}{rs:List (List Int)}(h:m9 H as rs):m9 H' as rs:=⟨h.1,fun j a r e1 e2=>k.lst (h.2 j a r e1 e2)⟩
theorem Kp.upd_r {H H':Hp}(k:Kp H H'){x:Addr}{o:HO}(n:H x=none):Kp H (c9 H' x o):=by
 have ne:∀a u,H a=some u->a≠x:=fun a u e z=>by rw[z,n] at e;cases e
 refine ⟨fun a u e h=>by rw[g8 (ne a u e)];exact k.nd a u e h,fun a es e=> ?_,fun a e=> ?_⟩
 · have nx:a≠x:=e.elim (fun e=>ne a _ e) fun ⟨_,e⟩=>ne a _ e
   unfold am0;rw[g8 nx];exact k.tab a es e
 · by_cases z:a=x
   · rw[z];exact n
   · rw[g8 z] at e;exact k.fr a e
theorem Kp.freeze {H:Hp}{u:Addr}{kvs:List (o3×V)}{o:Obj}(e:H u=some (.dK kvs)):Kp H (c9 H u (.frz o (.dK kvs))):=by
 refine ⟨fun a v h n=> ?_,fun a es h=> ?_,fun a h=> ?_⟩
 · rw[g8 fun z=>by rw[z,e] at h;cases h;exact n _ rfl];exact h
 · by_cases z:a=u
   · subst z
     rcases h with h|⟨_,h⟩
     · rw[e] at h;cases h;exact .inr ⟨o,c8⟩
     · rw[e] at h;cases h
   · unfold am0;rw[g8 z];exact h
 · by_cases z:a=u
   · rw[z,c8] at h;cases h
   · rw[g8 z] at h;exact h
theorem cb4:∀{es:List (Int×Int)} {i:Nat} {e:Int×Int},(es.map (·.1)).Nodup->es[i]? =some e->A7 (L9 es) (Sum.inl e.1:o3)=some (.int e.2)
 |[],i,e,_,h=>by cases h
 |x::es,0,e,_,h=>by cases h;exact W1 rfl
 |x::es,i+1,e,nd,h=>by
  rw[du9,dw4] at nd;have hm:e∈es:=dt2 h;show A7 ((Sum.inl x.1,V.int x.2)::L9 es) _=_;rw[S5]
  · exact cb4 nd.2 h
  · intro z;have z:x.1=e.1:=Sum.inl.inj z;exact nd.1 (by rw[z];exact List.mem_map_of_mem hm)
def cg0:Sp:=fun vs H Q _=>∃(a ch:Addr) (p:List Int) (cs:List Addr) (chs:List (List (List (Int×Int)))),vs=[.ref a,.ref ch]/\H a=some (.lst (p.map V.int))/\p.length<=40/\H ch=some (.lst (cs.map V.ref))/\
 E1 (fun c ways=>∃us,H c=some (.lst (us.map V.ref))/\E1 (am0 H) us ways) cs chs/\(∀ways∈chs,∀es∈ways,(es.map (·.1)).Nodup/\∀e∈es,0<=e.1/\e.1 < (p.length:Int))/\(∀i,(M9 p (chs.take i)).length<=2000)/\
 ∀(o:Addr) (bs:List Addr) (ts:List (List Int)) (H':Hp),H o=none->H' o=some (.lst (bs.map V.ref))->m9 H' bs ts->ts.Perm (M9 p chs)->ts.Pairwise (fun r r'=>HT.aq4 r' r=false)->bs.Nodup->(∀b∈bs,H b=none)->o∉bs->Kp H H'->Q (.ref o) H'
theorem A0:l8 ["p","choices","laid","ways","wider","turn","way","told","thing"] ["p","choices"] (j5 U8):=by rfl'
theorem ax4 {f:Addr}{fd:FuncData}(F:x6 K "lay_every_way" "lay_every_way" U8 f fd)(B:Bl mg):o7 P w K mg base x5 1 f fd ["p","choices"] cg0:=by
 refine F.ok A0 (fun vs H Q E h=> ?_) (fun cdv A outer s H vs Q E hr h=> ?_)
 · obtain ⟨a,ch,p,cs,chs,rfl,ha,lp,hch,atc,keys,few,q⟩:=h;rfl
 · obtain ⟨a,ch,p,cs,chs,rfl,ha,lp,hch,atc,keys,few,q⟩:=h;have hu:=X1 hr;have hu2:_+1+1 < cLine:=dw0 (Nat.add_le_add_left (by decide:2<=64) _) hr.units;refine ⟨_,@c7 _ _ _ _ _ (@i6 _ _ (2) _ _ _ _ A0.nd rfl (Or.inl rfl) (@p8 _ _ _ _ (@c5 _ _ _ _ _ (@bi4 _ _ _ _ _ B.list (@c5 _ _ _ _ _ (pv 0) (@c6 _) (by rfl)) (by rfl) (by rfl)) (@c6 _) (by rfl))) (by rfl) (by trivial)) (@c7 _ _ _ _ _ (@l9 _ _ _ _ _ _ _ _ PassesOwn.never rfl (@t5 _ _ _ _ (pv 1)) (@i9 _ _ (3) _ A0.nd rfl (Or.inl rfl) (by trivial)) (@c7 _ _ _ _ _ (@i6 _ _ (4) _ _ _ _ A0.nd rfl (Or.inl rfl) (@p8 _ _ _ _ (@c6 _)) (by rfl) (by trivial)) (@c7 _ _ _ _ _ (@l9 _ _ _ _ _ _ _ _ PassesOwn.never rfl (@t5 _ _ _ _ (pv 2)) (@i9 _ _ (5) _ A0.nd rfl (Or.inl rfl) (by trivial)) (@e7 _ _ _ (@l9 _ _ _ _ _ _ _ _ PassesOwn.never rfl (@t5 _ _ _ _ (pv 3)) (@i9 _ _ (6) _ A0.nd rfl (Or.inl rfl) (by trivial)) (@c7 _ _ _ _ _ (@i6 _ _ (7) _ _ _ _ A0.nd rfl (Or.inl rfl) (@bi4 _ _ _ _ _ B.list (@c5 _ _ _ _ _ (pv 5) (@c6 _) (by rfl)) (by rfl) (by rfl)) (by rfl) (by trivial)) (@c7 _ _ _ _ _ (@l9 _ _ _ _ _ _ _ _ PassesOwn.never rfl (cu2 (pv 6)) (@i9 _ _ (8) _ A0.nd rfl (Or.inl rfl) (by trivial)) (@e7 _ _ _ (@an2 _ _ _ _ _ _ (@ah9 _ _ _ _ _ _ hu (pv 6) (pv 8) (fun _ _=>rfl)) (@an1 _ _ _ _ _ _ _ (pv 7) (pv 8) ac2 (by intro _;rfl)) (by rfl) (by rfl) (by rfl))) (by intro _;rfl)) (@e7 _ _ _ (@p7 _ _ _ _ (@x8 _ _ _ _ _ _ _ (pv 4) (@c5 _ _ _ _ _ (pv 7) (@c6 _) (by rfl)) (by rfl) (by rfl) (by rfl) (by rfl) (by rfl)) (by rfl))))) (by intro _;rfl))) (by intro _;rfl)) (@e7 _ _ _ (@i6 _ _ (2) _ _ _ _ A0.nd rfl (Or.inl rfl) (pv 4) (by rfl) (by trivial))))) (by intro _;rfl)) (@e7 _ _ _ (@l5 _ _ _ _ (bx1 hu2 B.sorted (@c5 _ _ _ _ _ (pv 2) (@c6 _) (by rfl)))))),?_⟩;refine ⟨_,rfl,a,_,rfl,.inl (i5.of ha),fun e0 he0=> ?_⟩;have s1:e8 H (c9 H e0 (.lst (p.map V.int))):=e8.upd_new he0;have h1e:(c9 H e0 (.lst (p.map V.int))) e0=some (.lst (p.map V.int)):=c8;generalize (c9 H e0 (.lst (p.map V.int)))=H1 at s1 h1e ⊢;refine ⟨(show 1<=sizeLine by decide),fun F0 hF0=> ?_⟩;have s2:e8 H1 (c9 H1 F0 (.lst [V.ref e0])):=e8.upd_new hF0;have h2F:(c9 H1 F0 (.lst [V.ref e0])) F0=some (.lst (([e0]:List Addr).map V.ref)):=c8;generalize (c9 H1 F0 (.lst [V.ref e0]))=H2 at s2 h2F ⊢;have s02:=s1.trans s2
   refine ⟨_,rfl,ch,rfl,⟨_,i5.of (s02 _ _ hch)⟩,w4 (K:=K) (a:=ch) (xs:=cs.map V.ref) (fun i σ H3=>∃(F:Addr) (ts:List Addr) (v3 v4 v5 v6 v7 v8:Option V),σ=[some (.ref a),some (.ref ch),some (.ref F),v3,v4,v5,v6,v7,v8]/\H3 F=some (.lst (ts.map V.ref))/\m9 H3 ts (M9 p (chs.take i))/\ts.Nodup/\(∀t∈ts,H t=none)/\Kp H H3)
     ⟨F0,[e0],none,none,none,none,none,none,rfl,h2F,⟨rfl,fun j b r e1 e2=>by
       rcases j with _|j
       · cases e1;cases e2;exact s2 _ _ h1e
       · cases e1⟩,by simp,fun t ht=>by rw[dt3.mp ht];exact he0,Kp.of s02⟩ (fun i σ H3 _ zz=>by obtain ⟨_,_,_,_,_,_,_,_,_,_,_,_,_,k⟩:=zz;exact i5.of (k.lst hch)) ?_ ?_⟩
   · rintro i y σ H3 hi ⟨F,ts,v3,v4,v5,v6,v7,v8,rfl,h3F,rows,tnd,tfr,k3⟩
     obtain ⟨c,hc,rfl⟩:∃c,cs[i]? =some c/\y=V.ref c:=by
       rw[ds9] at hi
       cases e:cs[i]? with
       |none=>rw[e] at hi;cases hi
       |some a=>rw[e] at hi;exact ⟨a,rfl,(Option.some.inj hi).symm⟩
     obtain ⟨ways,hw,us,hcu,atu⟩:=atc.get hc;have fewi:=few (i+1);rw[i7 hw,bc1] at fewi ⊢;have lens:=bk3 p (chs.take i);generalize M9 p (chs.take i)=laid at rows fewi lens ⊢;have kw:=keys ways (dt2 hw);refine ⟨du3 _,fun W hW=> ?_⟩;have hW0:H W=none:=k3.fr W hW;have s4:e8 H3 (c9 H3 W (.lst [])):=e8.upd_new hW;have h4W:(c9 H3 W (.lst [])) W=some (.lst (([]:List Addr).map V.ref)):=c8;generalize (c9 H3 W (.lst []))=H4 at s4 h4W ⊢
     refine ⟨_,rfl,F,rfl,⟨_,i5.of (s4 _ _ h3F)⟩,w4 (K:=K) (a:=F) (xs:=ts.map V.ref) (fun j σ H5=>∃(bs:List Addr) (v5 v6 v7 v8:Option V),σ=[some (.ref a),some (.ref ch),some (.ref F),some (.ref c),some (.ref W),v5,v6,v7,v8]/\H5 W=some (.lst (bs.map V.ref))/\m9 H5 bs (M8 (laid.take j) ways)/\bs.Nodup/\(∀b∈bs,H3 b=none)/\W∉bs/\Kp H3 H5)
       ⟨[],v5,v6,v7,v8,rfl,h4W,⟨rfl,fun j b r h=>by cases h⟩,dz9,(fun b hb=>by cases hb),(fun z=>by cases z),Kp.of s4⟩ (fun j σ H5 _ zz=>by obtain ⟨_,_,_,_,_,_,_,_,_,_,_,k⟩:=zz;exact i5.of (k.lst h3F)) ?_ ?_⟩
     · rintro j y σ H5 hj ⟨bs0,v5,v6,v7,v8,rfl,h5W,rowsB0,bnd0,bfr0,Wb0,k5⟩
       obtain ⟨t,ht,rfl⟩:∃t,ts[j]? =some t/\y=V.ref t:=by
         rw[ds9] at hj
         cases e:ts[j]? with
         |none=>rw[e] at hj;cases hj
         |some a=>rw[e] at hj;exact ⟨a,rfl,(Option.some.inj hj).symm⟩
       obtain ⟨row,hrow⟩:∃r,laid[j]? =some r:=⟨_,ds2 (by rw[<-rows.1];exact (ds3.mp ht).1)⟩;have h3t:=rows.2 j t row ht hrow;have lrow:=lens row (dt2 hrow);have tot:=bf9 (f:=fun t=>ways.map (t7 t)) hrow;rw[ds1] at tot;have h5c:=(k3.trans k5).lst hcu
       refine ⟨_,rfl,c,rfl,⟨_,i5.of h5c⟩,w4 (K:=K) (a:=c) (xs:=us.map V.ref) (fun k σ H6=>∃(bs:List Addr) (v6 v7 v8:Option V),σ=[some (.ref a),some (.ref ch),some (.ref F),some (.ref c),some (.ref W),some (.ref t),v6,v7,v8]/\H6 W=some (.lst (bs.map V.ref))/\m9 H6 bs (M8 (laid.take j) ways++(ways.take k).map (t7 row))/\bs.Nodup/\(∀b∈bs,H3 b=none)/\W∉bs/\Kp H3 H6)
         ⟨bs0,v6,v7,v8,rfl,h5W,by rw[eb9,ee7,du8];exact rowsB0,bnd0,bfr0,Wb0,k5⟩ (fun k σ H6 _ zz=>by obtain ⟨_,_,_,_,_,_,_,_,_,_,kk⟩:=zz;exact i5.of ((k3.trans kk).lst hcu)) ?_ ?_⟩
       · rintro k y σ H6 hk ⟨bs,v6,v7,v8,rfl,h6W,rowsB,bnd,bfr,Wb,k6⟩
         obtain ⟨u,hu,rfl⟩:∃t,us[k]? =some t/\y=V.ref t:=by
           rw[ds9] at hk
           cases e:us[k]? with
           |none=>rw[e] at hk;cases hk
           |some a=>rw[e] at hk;exact ⟨a,rfl,(Option.some.inj hk).symm⟩
         obtain ⟨es,hes,tu⟩:=atu.get hu;obtain ⟨knd,kbd⟩:=kw es (dt2 hes);refine ⟨_,rfl,t,_,rfl,.inl (i5.of (k6.lst h3t)),fun to hto=> ?_⟩;have s7:e8 H6 (c9 H6 to (.lst (row.map V.int))):=e8.upd_new hto;have h7t:(c9 H6 to (.lst (row.map V.int))) to=some (.lst (row.map V.int)):=c8;generalize (c9 H6 to (.lst (row.map V.int)))=H7 at s7 h7t ⊢;have k67:Kp H6 H7:=Kp.of s7;have tu7:am0 H7 u es:=k67.tab u es (k6.tab u es (k3.tab u es tu));refine ⟨_,rfl,u,L9 es,rfl,?_⟩;refine tu7.elim (fun h=> .inl ⟨h,fun o=> ?_⟩) (fun ⟨o,h⟩=> .inr ⟨o,h,?_⟩)
         all_goals
           first
             |(have h8u:(c9 H7 u (.frz o (.dK (L9 es)))) u=some (.frz o (.dK (L9 es))):=c8
               have k68:=k67.trans (Kp.freeze (o:=o) h);have h8t:=(Kp.freeze (o:=o) h).lst h7t
               generalize (c9 H7 u (.frz o (.dK (L9 es))))=H8 at h8u k68 h8t ⊢)
             |(have h8u:=h
               have k68:=k67;have h8t:=h7t
               generalize H7=H8 at h8u k68 h8t ⊢)
           have nut:u≠to:=fun z=>by rw[z,h8t] at h8u;cases h8u
           refine ak1 (fun q σ H9=>∃(v8:Option V),σ=[some (.ref a),some (.ref ch),some (.ref F),some (.ref c),some (.ref W),some (.ref t),some (.ref u),some (.ref to),v8]/\H9 to=some (.lst ((t7 row (es.take q)).map V.int))/\H9 u=some (.frz o (.dK (L9 es)))/\Kp H6 H9)
             ⟨v8,rfl,h8t,h8u,k68⟩ (fun q σ H9 _ ⟨_,_,_,e,_⟩=>e) ?_ ?_
           · rintro q kk vv σ H9 hq ⟨v8,rfl,h9t,h9u,k9⟩;unfold L9 at hq;rw[ds9] at hq
             cases hE:es[q]? with
             |none=>rw[hE] at hq;cases hq
             |some e=>
              rw[hE] at hq;cases hq;have eb:=kbd e (dt2 hE);refine ⟨_,rfl,_,rfl,u,.int e.2,rfl,.inl ⟨L9 es,Sum.inl e.1,.inr ⟨o,h9u⟩,rfl,(cb4 knd hE).symm⟩,?_⟩;refine ⟨_,rfl,_,rfl,to,_,_,e.1.toNat,rfl,rfl,h9t,?_,?_⟩
              · unfold ixN;rw[ds1,al9,if_pos eb.1,if_pos (by omega)]
              · refine ⟨_,rfl,?_,by rw[g8 nut];exact h9u,k9.upd_r hto⟩;rw[c8,i7 hE,bx7,List.map_set]
           · rintro σ H9 ⟨v8,rfl,h9t,h9u,k9⟩;rw[show (L9 es).length=es.length by unfold L9;rw[ds1],du7] at h9t;have h9W:=k9.lst h6W
             have lb:bs.length<=2000:=by
               have:=rowsB.1;rw[ds8,ds1,du1] at this;unfold M8 at this fewi;omega
             refine ⟨_,rfl,.inl ⟨rfl,_,i5.of h9W⟩,_,rfl,W,_,_,rfl,rfl,h9W,dw0 (show _<=2000 by rw[ds1];omega) (by decide),?_⟩;have nWt:W≠to:=g6 h6W hto;have k9':Kp H3 (c9 H9 W (.lst (bs.map V.ref++[V.ref to]))):=(k6.trans k9).upd_r hW
             have r9:m9 (c9 H9 W (.lst (bs.map V.ref++[V.ref to]))) (bs++[to]) ((M8 (laid.take j) ways++(ways.take k).map (t7 row))++[t7 row es]):=by
               refine K7 (t9 (k9.rows rowsB) fun b hb v e=> ?_) (by rw[g8 nWt.symm];exact h9t);rw[g8 (show b≠W from fun z=>Wb (z▸hb))];exact e
             refine ⟨bs++[to],_,_,_,rfl,by rw[c8,dt1];rfl,?_,?_,fun b hb=> ?_,fun z=> ?_,k9'⟩
             · have eb:(ways.take (k+1)).map (t7 row)=(ways.take k).map (t7 row)++[t7 row es]:=by rw[i7 hes,dt1];rfl
               rw[eb,<-du2];exact r9
             · rw[dy3];refine ⟨bnd,by simp,fun x hx z hz e=> ?_⟩;rw[dt3.mp hz] at e;obtain ⟨r,hr⟩:=ad6 rowsB hx;rw[e,hto] at hr;cases hr
             · rcases dt4.mp hb with z|z
               · exact bfr b z
               · rw[dt3.mp z];exact k6.fr to hto
             · rcases dt4.mp z with z|z
               · exact Wb z
               · exact nWt (dt3.mp z)
       · rintro σ H6 ⟨bs,v6,v7,v8,rfl,h6W,rowsB,bnd,bfr,Wb,k6⟩;refine ⟨bs,_,v6,v7,v8,rfl,h6W,?_,bnd,bfr,Wb,k6⟩;rw[ds1,atu.1,du7] at rowsB
         have e:M8 (laid.take (j+1)) ways=M8 (laid.take j) ways++ways.map (t7 row):=by
           unfold M8;rw[i7 hrow,eb8,dy7,ee0,du8]
         rw[e];exact rowsB
     · rintro σ H5 ⟨bs,v5,v6,v7,v8,rfl,h5W,rowsB,bnd,bfr,Wb,k5⟩;rw[ds1,rows.1,du7] at rowsB;exact ⟨_,rfl,W,bs,_,_,_,_,_,_,rfl,h5W,rowsB,bnd,fun b hb=>k3.fr b (bfr b hb),k3.trans k5⟩
   · rintro σ H3 ⟨F,ts,v3,v4,v5,v6,v7,v8,rfl,h3F,rows,tnd,tfr,k3⟩;rw[ds1,atc.1,du7] at rows;refine ⟨_,rfl,F,ts,_,rfl,i5.of h3F,rows,fun bs rs o pb pr rowsB srt ho=> ?_⟩;have s4:e8 H3 (c9 H3 o (.lst (bs.map V.ref))):=e8.upd_new ho;refine q o bs rs _ (k3.fr o ho) c8 (t9 rowsB fun b _ u e=>s4 _ _ e) pr srt (pb.nodup_iff.mpr tnd) (fun b hb=>tfr b (pb.mem_iff.mp hb)) (fun z=> ?_) (k3.trans (Kp.of s4));obtain ⟨r,hr⟩:=ad6 rowsB z;rw[ho] at hr;cases hr
end
end My
namespace My
open PySem L2 Mth
section
theorem bk4 {β:Type}(g:Nat->List β):∀ds:List Nat,(ds.flatMap g).length=ah4 ds fun d=>(g d).length
 |[]=>rfl
 |d::ds=>by rw[dy7,ds8,bk4 g ds,T8]
theorem bg0 {f:Nat->Nat}:∀{ds:List Nat} {d:Nat},d∈ds->f d<=ah4 ds f
 |x::ds,d,h=>by
  rw[T8]
  rcases dt7.mp h with rfl|h
  · omega
  · have:=bg0 (f:=f) h;omega
theorem bk5 {f:Nat->Nat}:∀{ds:List Nat},ah4 ds f≠0->∃d∈ds,f d≠0
 |[],h=>absurd rfl h
 |x::ds,h=>by
  rw[T8] at h
  by_cases c:f x=0
  · obtain ⟨d,hd,e⟩:=bk5 (f:=f) (ds:=ds) (by omega);exact ⟨d,ds6 _ hd,e⟩
  · exact ⟨x,ds5,c⟩
theorem ah5 {n l:Nat}(l1:1<=l):∀k,k < n->1<=w6 n l k
 |0,_=>ds4 _
 |k+1,h=>by
  show 1<=w6 n l k*(n - (k+1))*l;exact ea3 (ea3 (ah5 l1 k (by omega)) (by omega)) l1
theorem ap5 {n l:Nat}(l1:1<=l)(k:Nat):∀j,k+j < n->w6 n l k<=w6 n l (k+j)
 |0,_=>ds4 _
 |j+1,h=>by
  refine dt6 (ap5 l1 k j (by omega)) ?_;show w6 n l (k+j)<=w6 n l (k+j)*(n - (k+j+1))*l;rw[dx3];exact dw6 _ (ea3 (by omega) l1)
theorem ax5 {l:Nat}{ds:List Nat}(hd:∀d∈ds,1<=d):∀(f:Nat) {rs:List (List Int)},rs.length<=f->(∀r∈rs,r.length=l)->(A6 ds f rs).length=jf l ds rs.length
 |0,rs,hf,_=>by rw[show rs.length=0 by omega];rfl
 |f+1,rs,hf,hl=>by
  show (if rs.length=0 then [[]] else ds.flatMap (Q9 (A6 ds f) rs)).length=_
  by_cases c:rs.length=0
  · rw[if_pos c,c];rfl
  · rw[if_neg c,bk4,(bm1 (l:=l) hd).2 rs.length (by omega)]
    refine al5 fun d hdm=> ?_
    have d1:=hd d hdm;unfold Q9
    by_cases c2:d<=rs.length
    · rw[if_pos c2,if_pos c2,ae2 (c:=jf l ds (rs.length - d)) fun x hx=> ?_,al7 hl (d - 1) (by omega)];have o:=D6 hl (d - 1) (by omega) hx;rw[ds1,ax5 hd f (by have:=o.left;omega) fun r hr=>hl r (o.rows2 r hr)]
      congr 1
      have:=o.left;omega
    · rw[if_neg c2,if_neg c2];rfl
structure bu3 (ds:List Nat)(N d0:Nat):Prop where
 pos:1<=d0
 one:∀d∈ds,1<=d
 all:∀d∈ds,d0∣d
 in_:d0<=N->d0∈ds
theorem bu4 {l N d0:Nat}{ds:List Nat}(b:bu3 ds N d0)(l1:1<=l):∀q,d0*q<=N->1<=jf l ds (d0*q)
 |0,_=>ds4 _
 |q+1,h=>by
  have p:=b.pos;have e:d0*(q+1)=d0*q+d0:=en4 _ _;rw[(bm1 (l:=l) b.one).2 (d0*(q+1)) (by omega)];refine dt6 ?_ (bg0 (b.in_ (by omega)));rw[if_pos (by omega),show d0*(q+1) - d0=d0*q by omega];exact ea3 (ah5 l1 _ (by omega)) (bu4 b l1 q (by omega))
theorem bu5 {l N d0:Nat}{ds:List Nat}(b:bu3 ds N d0):∀(g n:Nat),n<=g->jf l ds n≠0->d0∣n
 |0,n,h,_=>by rw[show n=0 by omega];exact el6 _
 |g+1,n,h,z=>by
  by_cases c:n=0
  · rw[c];exact el6 _
  · rw[(bm1 (l:=l) b.one).2 n (by omega)] at z;obtain ⟨d,hd,e⟩:=bk5 z;have d1:=b.one d hd
    by_cases c2:d<=n
    · rw[if_pos c2] at e;have:=bu5 b g (n - d) (by omega) (fun y=>e (by rw[y,ee9]));have e2:=Nat.dvd_add this (b.all d hd);rw[ee2 c2] at e2;exact e2
    · rw[if_neg c2] at e;exact absurd rfl e
theorem co1 {l N d0:Nat}{ds:List Nat}(b:bu3 ds N d0)(l1:1<=l):∀(f:Nat) {rs:List (List Int)},rs.length<=f->rs.length<=N->(∀r∈rs,r.length=l)->d0∣rs.length->jf l ds rs.length<=2000->Few ds f rs
 |0,rs,_,_,_,_,_=>trivial
 |f+1,rs,hf,hN,hl,dv,le=>by
  refine ⟨fun d hd hdn=> ?_,by rw[ax5 b.one (f+1) hf hl];exact le⟩;have d1:=b.one d hd;obtain ⟨q,hq⟩:=Nat.dvd_sub dv (b.all d hd)
  have jp:1<=jf l ds (rs.length - d):=by rw[hq];exact bu4 b l1 q (by omega)
  have t1:w6 rs.length l (d - 1)*jf l ds (rs.length - d)<=jf l ds rs.length:=by
    rw[(bm1 (l:=l) b.one).2 rs.length (by omega)];have:=bg0 (f:=fun d=>if d<=rs.length then w6 rs.length l (d - 1)*jf l ds (rs.length - d) else 0) hd;rw[if_pos hdn] at this;exact this
  have t2:w6 rs.length l (d - 1)<=jf l ds rs.length:=dt6 (dw6 _ jp) t1;have t3:jf l ds (rs.length - d)<=jf l ds rs.length:=dt6 (eg9 _ (ah5 l1 (d - 1) (by omega))) t1;refine ⟨fun k hk=> ?_,fun x hx=> ?_⟩
  · rw[al7 hl k (by omega)];have:=ap5 l1 k (d - 1 - k) (n:=rs.length) (by omega);rw[show k+(d - 1 - k)=d - 1 by omega] at this;omega
  · have o:=D6 hl (d - 1) (by omega) hx
    have e:x.2.length=rs.length - d:=by have:=o.left;omega
    exact co1 b l1 f (by omega) (by omega) (fun r hr=>hl r (o.rows2 r hr)) (by rw[e];exact Nat.dvd_sub dv (b.all d hd)) (by rw[e];omega)
end
end My
namespace My
open PySem L2 Mth
section
variable {P:Program} {w:World} {K:PySem.W.Frag} {mg:Str->Option Value} {base:Heap}
theorem cy0 {l m:Nat}(hm:0 < m):∀(n d:Nat),Y8 l m d->m - d<=n->∃d,M7 l m d
 |0,d,u,h=>by
  by_cases z:du0 l (m/d)=1
  · exact ⟨d,u.done z⟩
  · have:=u.more hm z;omega
 |n+1,d,u,h=>by
  by_cases z:du0 l (m/d)=1
  · exact ⟨d,u.done z⟩
  · have:=u.more hm z;exact cy0 hm n _ (u.step hm) (by omega)
theorem cb5 {l m:Nat}(hm:0 < m):∃d,M7 l m d:=cy0 hm (m - 1) 1 (.start l m) (ds4 _)
theorem M2 {l m n d:Nat}(h:d∈o5 l m n):M1 l m d:=by
 refine ⟨(D0 h).1,?_⟩;unfold o5 at h;exact of_decide_eq_true (dx8.mp h).2
theorem as3 {l m n:Nat}(m1:1<=m):∃d0,bu3 (o5 l m n) n d0:=by
 obtain ⟨d0,h⟩:=cb5 (l:=l) m1;have p:=h.pos m1;refine ⟨d0,p,fun d hd=>(D0 hd).1,fun d hd=> ?_,fun hn=> ?_⟩
 · have r:=M2 hd;obtain ⟨a,b⟩:=(af2 r.1).mp r.2;exact h.least d a b
 · unfold o5;refine dx8.mpr ⟨dt0.mpr ⟨d0 - 1,dv0.mpr (by omega),by omega⟩,decide_eq_true ((af2 p).mpr ⟨h.parts,h.rest⟩)⟩
theorem bu6 {l m:Nat}(l0:0 < l)(m1:1<=m):∀(w:List (List (List Int))),(∀c∈w,M1 l m c.length)->(w.map eh9).flatten.Nodup->((N0 l m w).map (·.1)).Nodup
 |[],_,_=>dz9
 |c::w,h,nd=>by
  rw[du9,dt9,dy3] at nd;have i:=bu6 l0 m1 w (fun c hc=>h c (ds6 _ hc)) nd.2.1
  have e:N0 l m (c::w)=C8 (C0 l m c)++N0 l m w:=by unfold N0;rw[dy7]
  rw[e,dt1,al8,dy3];refine ⟨?_,i,fun x hx y hy z=> ?_⟩
  · unfold C0
    by_cases ex:∃J,C5 l (m/c.length) c J
    · rw[dif_pos ex];obtain ⟨k,e1,e2⟩:=(h c ds5).parts m1
      have ek:m/c.length=k:=by rw[e1];exact dy9 k (h c ds5).1
      exact ((Classical.choose_spec ex).perm l0 (by rw[ek];exact e2)).nodup_iff.mpr nd.1
    · rw[dif_neg ex];exact dz9
  · exact nd.2.2 x ((bk2 l0 m1 (h c ds5)).1 x hx) y ((ae3 l0 m1 w fun c hc=>h c (ds6 _ hc)).1 y hy) z
noncomputable def Y4 (rs:List (List Int))(m l:Nat):List (List (Int×Int)):=(A6 (o5 l m (l7 rs l)) 40 (w9 rs l)).map (N0 l m)
theorem E4 {rs:List (List Int)}{l:Nat}{r:List Int}(h:r∈w9 rs l):r∈rs/\r.length=l:=by
 unfold w9 at h;obtain ⟨a,b⟩:=dx8.mp h;exact ⟨a,of_decide_eq_true b⟩
theorem ap6 (f:List Int->Bool):∀rs:List (List Int),((rs.filter f).flatten).Sublist rs.flatten
 |[]=>List.Sublist.refl _
 |r::rs=>by
  by_cases c:f r=true
  · rw[ec5 c,dt9,dt9];exact (ap6 f rs).append_left r
  · rw[ec6 c,dt9];exact (ap6 f rs).trans (List.sublist_append_right _ _)
theorem N6 (rs:List (List Int))(l:Nat):(w9 rs l).flatten.Sublist rs.flatten:=ap6 _ rs
theorem rsb {p:List Int}(tp:o6 p){i:Nat}{rs:List (List Int)}(up:y8 p i rs):∀r∈rs,1<=r.length/\r.length<=p.length:=fun r hr=>by
 obtain ⟨y,L,hy,pr,er,_⟩:=up.ring r hr
 have b:=I0 tp hy (m:=L) fun i i0 i1=>pr.least i i0 i1
 have:=pr.pos;rw[er,n9];omega
theorem cb6 {rs:List (List Int)}{m l:Nat}(h:(w9 rs l).length<=40):(Y4 rs m l).length=p0 l m (l7 rs l):=by
 unfold Y4;rw[ds1,ax5 (l:=l) (fun d hd=>(D0 hd).1) 40 h fun r hr=>(E4 hr).2,Q4];rfl
theorem cu4 (laid:List (List Int))(c:List (List (Int×Int))):(M8 laid c).length=laid.length*c.length:=by
 unfold M8
 exact ae2 fun t _=>by rw[ds1]
theorem af9 (p:List Int)(f:Nat->List (List (Int×Int)))(g:Nat->Nat):∀n (ks:List Nat),ks.length<=n->(∀k∈ks,(f k).length=g k)->(M9 p (ks.map f)).length=j8 g ks
 |0,ks,h,_=>by
  obtain rfl:ks=[]:=eg3.mp (by omega);rfl
 |n+1,ks,h,hf=>by
  by_cases c:ks=[]
  · rw[c];rfl
  · have e:=(List.dropLast_concat_getLast c).symm;have hx:ks.getLast c∈ks:=List.getLast_mem c;generalize ks.getLast c=x at e hx
    have hd:∀k∈ks.dropLast,k∈ks:=fun k hk=>by rw[e];exact dy4 _ hk
    have hl:ks.dropLast.length<=n:=by rw[List.length_dropLast];omega
    generalize ks.dropLast=ks' at e hd hl;rw[e,dt1,show [x].map f=[f x] from rfl,bc1,cu4,ak2,af9 p f g n ks' hl (fun k hk=>hf k (hd k hk)),hf x hx]
theorem bu7 {g:Nat->Nat}:∀{ks:List Nat},j8 g ks≠0->∀k∈ks,1<=g k
 |x::ks,h,k,hk=>by
  have h:g x*j8 g ks≠0:=h
  have a:g x≠0:=fun z=>h (by rw[z,ed7])
  have b:j8 g ks≠0:=fun z=>h (by rw[z,ee9])
  rcases dt7.mp hk with rfl|hk
  · omega
  · exact bu7 b k hk
theorem ax6 {g:Nat->Nat}:∀{ks:List Nat},(∀k∈ks,1<=g k)->1<=j8 g ks
 |[],_=>ds4 _
 |x::ks,h=>ea3 (h x ds5) (ax6 fun k hk=>h k (ds6 _ hk))
theorem dc7 {g:Nat->Nat}{ks:List Nat}(h:∀k∈ks,1<=g k){k:Nat}(hk:k∈ks):g k<=j8 g ks:=by
 induction ks with
 |nil=>cases hk
 |cons x ks ih=>
  show g k<=g x*j8 g ks
  rcases dt7.mp hk with rfl|hk
  · exact dw6 _ (ax6 fun k hk=>h k (ds6 _ hk))
  · exact dt6 (ih (fun k hk=>h k (ds6 _ hk)) hk) (eg9 _ (h x ds5))
theorem co3 {g:Nat->Nat}{ks:List Nat}(h:∀k∈ks,1<=g k)(i:Nat):j8 g (ks.take i)<=j8 g ks:=by
 have e:=ao1 g (ks.take i) (ks.drop i);rw[dx2] at e;rw[e];exact dw6 _ (ax6 fun k hk=>h k (ec3 hk))
def bu8:Sp:=fun vs H Q _=>∃n:Int,vs=[.int n]/\n<=2000/\Q .non H
theorem bg1:l8 ["many"] ["many"] (j5 Z0):=by rfl'
theorem bg2 {f:Addr}{fd:FuncData}(F:x6 K "must_be_few" "must_be_few" Z0 f fd)(zly:∃t,mg "MOST_TOLD"=some (.int 2000 t)):o7 P w K mg base x5 1 f fd ["many"] bu8:=by
 refine F.ok bg1 (fun vs H Q E h=> ?_) (fun cdv A outer s H vs Q E hr h=> ?_)
 · obtain ⟨n,rfl,hn,q⟩:=h;rfl
 · obtain ⟨n,rfl,hn,q⟩:=h;obtain ⟨_,zez⟩:=zly;refine ⟨_,@e7 _ _ _ (@y9 _ _ _ _ _ _ _ _ (@t6 _ _ _ _ _ _ _ _ ay4 (pv 0) (@aq2 _ _ (.int 2000) _ _ (by rfl) zez ⟨_,rfl⟩ (by decide)) (q5 _)) (@e7 _ _ _ (@O1 _ _)) (@q0 _)),?_⟩;refine ⟨_,rfl,_,_,rfl,rfl,_,rfl,?_⟩;rw[decide_eq_false (show ¬(2000:Int) < n by omega)];exact G5 q
structure am1 (p:List Int)(m:Nat)(ts:List (List Int)):Prop where
 len:ts.length=R4 p m
 srt:ts.Pairwise (fun r r'=>HT.aq4 r' r=false)
 src:R4 p m=0\/∃ks:List Nat,ks.Nodup/\(∀k∈ks,∃r∈j9 p p.length,r.length=k)/\(∀r∈j9 p p.length,r.length∈ks)/\ts.Perm (M9 p (ks.map (Y4 (j9 p p.length) m)))
def cg1 (H:Hp)(c:Addr)(ways:List (List (Int×Int))):Prop:=∃us,H c=some (.lst (us.map V.ref))/\E1 (am0 H) us ways
theorem cg1.keep {H H':Hp}{c:Addr}{ways:List (List (Int×Int))}(h:cg1 H c ways)(s:e8 H H'):cg1 H' c ways:=by
 obtain ⟨us,a,b⟩:=h;exact ⟨us,s _ _ a,b.imp fun u es _ e=>(Kp.of s).tab u es e⟩
def bu9:Sp:=fun vs H Q _=>∃(a:Addr) (p:List Int) (m:Nat),vs=[.ref a,.int (m:Int)]/\R8 H a p/\1<=m/\R4 p m<=2000/\∀(o:Addr) (bs:List Addr) (ts:List (List Int)) (H':Hp),H o=none->H' o=some (.lst (bs.map V.ref))->m9 H' bs ts->am1 p m ts->bs.Nodup->(∀b∈bs,H b=none)->o∉bs->Kp H H'->Q (.ref o) H'
theorem M3:l8 ["p","m","many","by_length","choices","length","rings"] ["p","m"] (j5 ag8):=by rfl'
theorem bv0 {f:Addr}{fd:FuncData}(F:x6 K "all_roots" "all_roots" ag8 f fd)(B:Bl mg)(zzz:j7 P w K mg base "how_many_roots" 4 ["p","m"] aj2)(zmz:j7 P w K mg base "must_be_few" 1 ["many"] bu8)(zzx:j7 P w K mg base "sort_by_length" 1 ["rings"] ab5)(zyx:j7 P w K mg base "walk_rings" 2 ["p"] Q7)(zuy:j7 P w K mg base "ways_to_join" 43 ["rings","right","m"] (aj3 40))(zxy:j7 P w K mg base "right_numbers" 2 ["length","m","most"] al3)(zqz:j7 P w K mg base "lay_every_way" 1 ["p","choices"] cg0):o7 P w K mg base x5 44 f fd ["p","m"] bu9:=by
 refine F.ok M3 (fun vs H Q E h=> ?_) (fun cdv A outer s H vs Q E hr h=> ?_)
 · obtain ⟨a,p,m,rfl,⟨ha,tp,lp⟩,m1,few,q⟩:=h;rfl
 · obtain ⟨a,p,m,rfl,⟨ha,tp,lp⟩,m1,few,q⟩:=h;have zyy:l6 4 _:=hr.mono (by decide);have zhx:l6 1 _:=hr.mono (by decide);have zwy:l6 1 _:=hr.mono (by decide);have zux:l6 2 _:=hr.mono (by decide);have zq:l6 43 _:=hr.mono (by decide);have zrz:l6 2 _:=hr.mono (by decide);have ziz:l6 1 _:=hr.mono (by decide);have hu:=X1 hr;refine ⟨_,@c7 _ _ _ _ _ (@i6 _ _ (2) _ _ _ _ M3.nd rfl (Or.inl rfl) (@i4 _ _ _ _ _ _ _ _ _ _ zzz zyy (@c5 _ _ _ _ _ (pv 0) (@c5 _ _ _ _ _ (pv 1) (@c6 _) (by rfl)) (by rfl)) (by rfl) (by decide) (by rfl) (by rfl)) (by rfl) (by trivial)) (@c7 _ _ _ _ _ (@p7 _ _ _ _ (@i4 _ _ _ _ _ _ _ _ _ _ zmz zhx (@c5 _ _ _ _ _ (pv 2) (@c6 _) (by rfl)) (by rfl) (by decide) (by rfl) (by rfl)) (by rfl)) (@c7 _ _ _ _ _ (@y9 _ _ _ _ _ _ _ _ (@t6 _ _ _ _ _ _ _ _ U0 (pv 2) (@g7 _ _ _ _) (q5 _)) (@e7 _ _ _ (@l5 _ _ _ _ (@p8 _ _ _ _ (@c6 _)))) (@q0 _)) (@c7 _ _ _ _ _ (@i6 _ _ (3) _ _ _ _ M3.nd rfl (Or.inl rfl) (@i4 _ _ _ _ _ _ _ _ _ _ zzx zwy (@c5 _ _ _ _ _ (@i4 _ _ _ _ _ _ _ _ _ _ zyx zux (@c5 _ _ _ _ _ (pv 0) (@c6 _) (by rfl)) (by rfl) (by decide) (by rfl) (by rfl)) (@c6 _) (by rfl)) (by rfl) (by decide) (by rfl) (by rfl)) (by rfl) (by trivial)) (@c7 _ _ _ _ _ (@i6 _ _ (4) _ _ _ _ M3.nd rfl (Or.inl rfl) (@p8 _ _ _ _ (@c6 _)) (by rfl) (by trivial)) (@c7 _ _ _ _ _ (@l9 _ _ _ _ _ _ _ _ PassesOwn.never rfl (@bd6 _ _ _ _ (pv 3)) (@i9 _ _ (5) _ M3.nd rfl (Or.inl rfl) (by trivial)) (@c7 _ _ _ _ _ (@i6 _ _ (6) _ _ _ _ M3.nd rfl (Or.inl rfl) (@ah9 _ _ _ _ _ _ hu (pv 3) (pv 5) (fun _ _=>rfl)) (by rfl) (by trivial)) (@e7 _ _ _ (@p7 _ _ _ _ (@x8 _ _ _ _ _ _ _ (pv 4) (@c5 _ _ _ _ _ (@i4 _ _ _ _ _ _ _ _ _ _ zuy zq (@c5 _ _ _ _ _ (pv 6) (@c5 _ _ _ _ _ (@i4 _ _ _ _ _ _ _ _ _ _ zxy zrz (@c5 _ _ _ _ _ (pv 5) (@c5 _ _ _ _ _ (pv 1) (@c5 _ _ _ _ _ (@y7 _ _ _ _ _ B.len (@c5 _ _ _ _ _ (pv 6) (@c6 _) (by rfl)) (by rfl) (by rfl)) (@c6 _) (by rfl)) (by rfl)) (by rfl)) (by rfl) (by decide) (by rfl) (by rfl)) (@c5 _ _ _ _ _ (pv 1) (@c6 _) (by rfl)) (by rfl)) (by rfl)) (by rfl) (by decide) (by rfl) (by rfl)) (@c6 _) (by rfl)) (by rfl) (by rfl) (by rfl) (by rfl) (by rfl)) (by rfl)))) (by intro _;rfl)) (@e7 _ _ _ (@l5 _ _ _ _ (@i4 _ _ _ _ _ _ _ _ _ _ zqz ziz (@c5 _ _ _ _ _ (pv 0) (@c5 _ _ _ _ _ (pv 4) (@c6 _) (by rfl)) (by rfl)) (by rfl) (by decide) (by rfl) (by rfl))))))))),?_⟩;refine ⟨_,rfl,_,rfl,a,p,m,rfl,⟨ha,tp,lp⟩,m1,fun H1 s1=> ?_⟩;refine ⟨_,rfl,_,rfl,by omega,?_⟩;refine ⟨_,rfl,rfl,_,rfl,?_⟩
   by_cases z0:R4 p m=0
   · rw[decide_eq_true (by rw[z0];rfl)];refine ac6 ⟨du3 _,fun o ho=> ?_⟩;exact q o [] [] _ (s1.free ho) c8 ⟨rfl,fun j b r h=>by cases h⟩ ⟨by rw[z0];rfl,List.Pairwise.nil,.inl z0⟩ dz9 (fun b hb=>by cases hb) (fun z=>by cases z) (Kp.of (s1.trans (e8.upd_new ho)))
   rw[decide_eq_false (fun z=>z0 (by have:=V.int.inj z;omega))];refine G5 ?_;refine ⟨_,rfl,a,p,rfl,⟨s1 a _ ha,tp,lp⟩,fun l as rs H2 hl s12 h2l rows up fa nda nla=> ?_⟩;have cl:=ad7 up;have fl:=X9 tp up;have ers:rs=j9 p p.length:=up.eq;refine ⟨l,as,rs,rfl,h2l,rows,by omega,fun d es H3 hd s23 h3d bl les fre=> ?_⟩;refine ⟨du3 _,fun C hC=> ?_⟩;have s4:e8 H3 (c9 H3 C (.lst [])):=e8.upd_new hC;have h4C:(c9 H3 C (.lst [])) C=some (.lst (([]:List Addr).map V.ref)):=c8;generalize (c9 H3 C (.lst []))=H4 at s4 h4C ⊢;have hC2:H2 C=none:=s23.free hC;have ndC:d≠C:=g6 h3d hC;refine ⟨_,rfl,d,o8 es,rfl,s4 _ _ h3d,fun o=> ?_⟩;have sB:e8 H2 (c9 H4 d (.frz o (.dK (o8 es)))):=(s23.trans s4).upd_r hd;have hBd:(c9 H4 d (.frz o (.dK (o8 es)))) d=some (.frz o (.dK (o8 es))):=c8
   have kpB:∀c,c≠d->(c9 H4 d (.frz o (.dK (o8 es)))) c=H4 c:=fun c hc=>g8 hc
   have hBC:(c9 H4 d (.frz o (.dK (o8 es)))) C=some (.lst (([]:List Addr).map V.ref)):=by rw[g8 ndC.symm];exact h4C
   generalize (c9 H4 d (.frz o (.dK (o8 es))))=HB at sB hBd kpB hBC ⊢
   have lkv:(o8 es).length=es.length:=by unfold o8;rw[ds1]
   have hprod:j8 (fun l=>p0 l m (l7 rs l)) (es.map (·.1))=R4 p m:=by
     rw[ap3 tp up bl.nk bl.key bl.all (f:=fun l=>p0 l m (l7 rs l)) fun u hu=>by show p0 u m (l7 rs u)=1;rw[hu];rfl,ers];rfl
   have pos:=bu7 (g:=fun l=>p0 l m (l7 rs l)) (ks:=es.map (·.1)) (by rw[hprod];exact z0)
   have fl40:∀k∈es.map (·.1),0 < k/\(w9 rs k).length*k<=40/\(w9 rs k).length<=40/\k<=40:=fun k hk=>by
     obtain ⟨r,hr,lr⟩:=bl.key k hk;have rb:=rsb tp up r hr
     have e1:=Q0 (l:=k) (rs:=w9 rs k) fun r hr=>(E4 hr).2
     have e2:=(N6 rs k).length_le
     have k1:0 < k:=by omega
     have e3:(w9 rs k).length*k<=40:=by rw[<-e1];omega
     exact ⟨k1,e3,dt6 (dw6 _ k1) e3,by omega⟩
   have s02:e8 H H2:=s1.trans s12
   refine ak1 (fun i σ H6=>∃(cs:List Addr) (v5 v6:Option V),σ=[some (.ref a),some (.int (m:Int)),some (.int ((R4 p m:Nat):Int)),some (.ref d),some (.ref C),v5,v6]/\H6 C=some (.lst (cs.map V.ref))/\E1 (cg1 (J1 H6 [C])) cs (((es.take i).map (·.1)).map (Y4 rs m))/\i8 C HB H6)
     ⟨[],none,none,rfl,hBC,E1.nil,i8.refl _ _⟩ (fun i σ H6 _ ⟨_,_,_,_,_,_,k⟩=>k _ _ hBd ndC) ?_ ?_
   · rintro i k v σ H6 hi ⟨cs,v5,v6,rfl,h6C,atc,kb6⟩;unfold o8 at hi;rw[ds9] at hi
     cases hE:es[i]? with
     |none=>rw[hE] at hi;cases hi
     |some e=>
      rw[hE] at hi;cases hi;have he:=dt2 hE;have hek:e.1∈es.map (·.1):=dt0.mpr ⟨e,he,rfl⟩;have il:i < es.length:=(ds3.mp hE).1;obtain ⟨k1,k2,k3,k4⟩:=fl40 e.1 hek;obtain ⟨bs,hbs,rbs⟩:=bl.row e he;have neC:e.2≠C:=g6 hbs hC;have h6e:H6 e.2=some (.lst (bs.map V.ref)):=kb6 _ _ (by rw[kpB _ (bl.nd e he)];exact s4 _ _ hbs) neC;have h6d:=kb6 _ _ hBd ndC;have s26:e8 H2 H6:=sB.kb kb6 hC2
      have lbs:bs.length=l7 rs e.1:=by rw[rbs.1,Q4]
      have ecnt:=Q4 rs e.1;refine ⟨_,rfl,_,rfl,d,.ref e.2,rfl,.inl ⟨o8 es,Sum.inl (e.1:Int),.inr ⟨o,h6d⟩,rfl,(bb1 bl.nk he).symm⟩,?_⟩;refine ⟨_,rfl,.inl ⟨rfl,_,i5.of h6C⟩,_,rfl,_,rfl,_,rfl,_,rfl,e.2,_,rfl,.inl (i5.of h6e),e.1,m,l7 rs e.1,by rw[ds1,lbs];rfl,by omega,by omega,fun ra H7 hra s7 h7ra=> ?_⟩;obtain ⟨d0,bas⟩:=as3 (l:=e.1) (m:=m) (n:=l7 rs e.1) m1
      have jle:jf e.1 (o5 e.1 m (l7 rs e.1)) (w9 rs e.1).length<=2000:=by
        rw[ecnt];refine dt6 (show p0 e.1 m (l7 rs e.1)<=_ from dc7 (g:=fun l=>p0 l m (l7 rs l)) pos hek) ?_;rw[hprod];exact few
      have jne:jf e.1 (o5 e.1 m (l7 rs e.1)) (w9 rs e.1).length≠0:=by
        rw[ecnt];have:1<=p0 e.1 m (l7 rs e.1):=pos e.1 hek;intro y;have y:p0 e.1 m (l7 rs e.1)=0:=y;omega
      have fw:=co1 (l:=e.1) bas k1 40 k3 (eh8 ecnt) (fun r hr=>(E4 hr).2) (bu5 bas _ _ (ds4 _) jne) jle;refine ⟨_,rfl,e.2,bs,w9 rs e.1,ra,o5 e.1 m (l7 rs e.1),e.1,m,rfl,s7 _ _ h6e,t9 rbs fun b _ u x=>s7 _ _ (s26 _ _ x),h7ra,k3,fun r hr=>(E4 hr).2,k1,k2,(N6 rs e.1).nodup up.nd,m1,fun d hd=>M2 hd,fw,fun oo us H8 hoo s8 h8o und ufr atw=> ?_⟩;have s68:=s7.trans s8
      have lcs:cs.length<=40:=by
        have:=atc.1;rw[ds1,ds1,du1] at this;omega
      have h7C:=s7 _ _ h6C;refine ⟨C,_,_,rfl,rfl,s68 _ _ h6C,o9 (by rw[ds1];omega),?_⟩;rw[show cs.map V.ref++[V.ref oo]=(cs++[oo]).map V.ref by rw[dt1];rfl];refine ⟨cs++[oo],_,_,rfl,c8,?_,(kb6.trans (s68.but C)).upd_a⟩;rw[bf7 ds5,i7 hE,dt1,dt1];refine E1.snoc (atc.imp fun c ways _ h=>h.keep (D3 s68)) ?_
      have nC:∀u,H7 u=none->u∉[C]:=fun u hu z=>by rw[dt3.mp z,h7C] at hu;cases hu
      refine ⟨us,by rw[J7 (nC oo hoo)];exact h8o,?_⟩;unfold Y4;refine ⟨by rw[atw.1,ds1],fun j u x e1 e2=> ?_⟩;rw[ds9] at e2;obtain ⟨w,hw,ww⟩:=atw.get e1;rw[hw] at e2;cases e2;refine .inl ?_;rw[J7 (nC u (ufr u (dt2 e1)))];exact ww
   · rintro σ H6 ⟨cs,v5,v6,rfl,h6C,atc,kb6⟩;rw[lkv,du7] at atc;have s26:e8 H2 H6:=sB.kb kb6 hC2;have s06:=s02.trans s26
     have cntk:∀k∈es.map (·.1),(Y4 rs m k).length=p0 k m (l7 rs k):=fun k hk=>cb6 (fl40 k hk).2.2.1
     refine ⟨_,rfl,_,rfl,a,C,p,cs,(es.map fun (x:Nat×Addr)=>x.1).map (Y4 rs m),rfl,s06 _ _ ha,lp,h6C,atc.imp fun c ways _ h=>h.keep (bt7 _ _),fun ways hw x hx=> ?_,fun i=> ?_,fun oo bs ts H7 hoo h7o rowsB pr srt bnd bfr ob kp=> ?_⟩
     · obtain ⟨k,hk,rfl⟩:=dt0.mp hw;obtain ⟨k1,k2,k3,k4⟩:=fl40 k hk;obtain ⟨w,hw',rfl⟩:=dt0.mp hx;have wo:=bb9 (l:=k) (m:=m) (ds:=o5 k m (l7 rs k)) (fun d hd=>(D0 hd).1) 40 k3 (fun r hr=>(E4 hr).2) hw'
       have rr:∀c∈w,M1 k m c.length:=fun c hc=>M2 (wo.right c hc).1
       have fnd:=(N6 rs k).nodup up.nd;refine ⟨bu6 k1 m1 w rr (wo.perm.nodup_iff.mpr fnd),fun e he=> ?_⟩;have em:=(ae3 k1 m1 w rr).1 e.1 (dt0.mpr ⟨e,he,rfl⟩);have em:=(N6 rs k).mem (wo.perm.mem_iff.mp em);obtain ⟨r,hr,hxr⟩:=du6.mp em;obtain ⟨y,L,hy,pr2,er,_⟩:=up.ring r hr;rw[er] at hxr;exact W4 tp hy _ hxr
     · rw[<-em9,af9 p (Y4 rs m) (fun l=>p0 l m (l7 rs l)) _ _ (ds4 _) fun k hk=>cntk k (dy5 hk)];refine dt6 (co3 pos i) ?_;rw[hprod];exact few
     · refine q oo bs ts H7 (s06.free hoo) h7o rowsB ⟨?_,srt,.inr ⟨es.map (·.1),bl.nk,by rw[<-ers];exact bl.key,by rw[<-ers];exact bl.all,by rw[<-ers];exact pr⟩⟩ bnd (fun b hb=>s06.free (bfr b hb)) ob ((Kp.of s06).trans kp);rw[pr.length_eq,af9 p (Y4 rs m) (fun l=>p0 l m (l7 rs l)) _ _ (ds4 _) cntk,hprod]
end
end My
namespace My
open PySem L2 Mth
section
def Rg (p:List Int)(l:Nat)(r:List Int):Prop:=∃y,In p y/\D7 p y l/\r=m7 p y l
theorem Rg.rot {p:List Int}(t:o6 p){l:Nat}{r:List Int}(h:Rg p l r)(b:Nat)(hb:b < l):Rg p l (r.drop b++r.take b):=by
 obtain ⟨y,hy,py,rfl⟩:=h;refine ⟨it p b y,L1 t hy b,py.shift t hy b,?_⟩
 refine dx9 fun i=> ?_
 have e1:∀j,(m7 p y l)[j]? =if j < l then some (it p j y) else none:=fun j=>by
   unfold m7;rw[ds9]
   by_cases c:j < l
   · rw[dw9 c,if_pos c];rfl
   · rw[dt5 (by rw[dw1];omega),if_neg c];rfl
 have e2:(m7 p (it p b y) l)[i]? =if i < l then some (it p i (it p b y)) else none:=by
   unfold m7;rw[ds9]
   by_cases c:i < l
   · rw[dw9 c,if_pos c];rfl
   · rw[dt5 (by rw[dw1];omega),if_neg c];rfl
 rw[e2,<-D1]
 by_cases c:i < l - b
 · rw[dv8 (by rw[dx1,n9];exact c),eg4,e1,if_pos (by omega),if_pos (by omega),ec4]
 · rw[dw7 (by rw[dx1,n9];omega),dx1,n9,ej0]
   by_cases c2:i < l
   · rw[if_pos (by omega),e1,if_pos (by omega),if_pos c2]
     have e3:i+b=(i - (l - b))+l:=by omega
     rw[e3,D1,py.back]
   · rw[if_neg (by omega),if_neg c2]
theorem cb7 {p:List Int}(t:o6 p){l:Nat}{rs:List (List Int)}(h:∀r∈rs,Rg p l r):∀(i:Nat) {y:List Int×List (List Int)},i<=rs.length->y∈D4 rs i->Rg p l y.1
 |0,y,_,z=>by cases z
 |i+1,y,hi,z=>by
  rcases dt4.mp z with z|z
  · exact cb7 t h i (by omega) z
  · obtain ⟨b,hb,rfl⟩:=dt0.mp z
    have il:i < rs.length:=by omega
    have eg:rs.getD i []=rs[i]:=by rw[ds7,ds2 il];rfl
    have hr:=h _ (dw2 il);have hb:=dv0.mp hb;show Rg p l ((rs.getD i []).drop b++(rs.getD i []).take b);rw[eg] at hb ⊢
    have hl:(rs[i]).length=l:=by
      obtain ⟨y,_,_,e⟩:=hr;rw[e,n9]
    exact hr.rot t b (by omega)
theorem Y5 {p:List Int}{l:Nat}{r:List Int}(h:Rg p l r):r.length=l:=by
 obtain ⟨y,_,_,e⟩:=h;rw[e,n9]
theorem ae4 {p:List Int}(t:o6 p){l:Nat}{rs:List (List Int)}(h:∀r∈rs,Rg p l r):∀(k:Nat) {x:List (List Int)×List (List Int)},k < rs.length->x∈v9 rs k->∀r∈x.1,Rg p l r
 |0,x,hk,z,r,hr=>by
  rw[dt3.mp z] at hr;have hr:r∈[rs.getD 0 []]:=hr;rw[dt3.mp hr,ds7,ds2 hk];exact h _ (dw2 hk)
 |k+1,x,hk,z,r,hr=>by
  obtain ⟨x',h',z⟩:=dx7.mp z;obtain ⟨y,hy,rfl⟩:=dt0.mp z;have o:=D6 (fun r hr=>Y5 (h r hr)) k (by omega) h'
  rcases dt4.mp hr with w|w
  · exact ae4 t h k (by omega) h' r w
  · rw[dt3.mp w];exact cb7 t (fun r hr=>h r (o.rows2 r hr)) _ (ds4 _) hy
theorem co4 {p:List Int}(t:o6 p){l:Nat}{ds:List Nat}(hd:∀d∈ds,1<=d):∀(f:Nat) {rs:List (List Int)} {w:List (List (List Int))},rs.length<=f->(∀r∈rs,Rg p l r)->w∈A6 ds f rs->∀c∈w,∀r∈c,Rg p l r
 |0,rs,w,hf,hl,h,c,hc=>by rw[dt3.mp h] at hc;cases hc
 |f+1,rs,w,hf,hl,h,c,hc=>by
  unfold A6 at h
  by_cases c0:rs.length=0
  · rw[if_pos c0] at h;rw[dt3.mp h] at hc;cases hc
  · rw[if_neg c0] at h;obtain ⟨d,hdm,h⟩:=dx7.mp h;unfold Q9 at h
    by_cases c2:d<=rs.length
    · rw[if_pos c2] at h;obtain ⟨x,hx,h⟩:=dx7.mp h;obtain ⟨w',hw',rfl⟩:=dt0.mp h;have d1:=hd d hdm;have o:=D6 (fun r hr=>Y5 (hl r hr)) (d - 1) (by omega) hx
      rcases dt4.mp hc with z|z
      · exact co4 t hd f (by have:=o.left;omega) (fun r hr=>hl r (o.rows2 r hr)) hw' c z
      · rw[dt3.mp z];exact ae4 t hl (d - 1) (by omega) hx
    · rw[if_neg c2] at h;cases h
theorem co5 {l k:Nat}(l0:0 < l)(c:du0 l k=1){Rs:List (List Int)}(h:∀r∈Rs,r.length=l):∃J,C5 l k Rs J:=by
 have it_:=ak3 (d:=Rs.length) l0 c;have pl:=W5 Rs.length l k;have fl:=Q0 h;refine ⟨(dv4 (Rs.length*l)).map fun (i:Nat)=>Rs.flatten.getD ((O4 Rs.length l k).idxOf (i:Int)) 0,by rw[ds1,dw1],?_⟩
 refine dx9 fun n=> ?_
 rw[ds9,ds9]
 by_cases hn:n < Rs.length*l
 · have hp:n < (O4 Rs.length l k).length:=by omega
   rw[ds2 hp,ds2 (show n < Rs.flatten.length by omega)];have v0:=it_.lo _ (dw2 hp);have v1:=it_.hi _ (dw2 hp);show some (A1 _ _)=some (some _)
   congr 1
   unfold A1;rw[ds9,dw9 (by omega)];show some (Rs.flatten.getD ((O4 Rs.length l k).idxOf _) 0)=_;rw[show (((O4 Rs.length l k)[n].toNat:Nat):Int)=(O4 Rs.length l k)[n] by omega,it_.nd.idxOf_getElem n hp,ds7,ds2 (show n < Rs.flatten.length by omega)];rfl
 · rw[dt5 (by omega),dt5 (by omega)];rfl
theorem ax7 {l m:Nat}{c:List (List Int)}(l0:0 < l)(m1:1<=m)(r:M1 l m c.length)(h:∀x∈c,x.length=l):∃k,m=c.length*k/\du0 l k=1/\C5 l k c (C0 l m c):=by
 obtain ⟨k,e1,e2⟩:=r.parts m1;obtain ⟨J,j⟩:=co5 l0 e2 h;exact ⟨k,e1,e2,by rw[ax2 l0 r.1 e1 e2 j];exact j⟩
inductive Pkd:List (List (Int×Int))->List (List (List (Int×Int)))->Prop
 |nil:Pkd [] []
 |cons {es:List (Int×Int)} {ess:List (List (Int×Int))} {ways:List (List (Int×Int))} {chs:List (List (List (Int×Int)))}:es∈ways->Pkd ess chs->Pkd (es::ess) (ways::chs)
theorem bv1:∀(chs:List (List (List (Int×Int)))) (laid:List (List Int)) {t:List Int},t∈chs.foldl M8 laid->∃t0∈laid,∃ess,Pkd ess chs/\t=t7 t0 ess.flatten
 |[],laid,t,h=>⟨t,h,[],.nil,rfl⟩
 |c::chs,laid,t,h=>by
  obtain ⟨t1,h1,ess,pk,e⟩:=bv1 chs (M8 laid c) h;obtain ⟨t0,h0,z⟩:=dx7.mp h1;obtain ⟨es,hes,rfl⟩:=dt0.mp z;refine ⟨t0,h0,es::ess,.cons hes pk,?_⟩;rw[e,dt9];unfold t7;rw[ej9]
theorem bc2:∀(es:List (Int×Int)) (t:List Int) {x:Int},0<=x->(∀e∈es,0<=e.1)->x∉es.map (·.1)->A1 (t7 t es) x=A1 t x
 |[],t,x,_,_,_=>rfl
 |e::es,t,x,x0,lo,h=>by
  rw[du9,dt7,not_or] at h;show A1 (t7 (t.set e.1.toNat e.2) es) x=_;rw[bc2 es _ x0 (fun e he=>lo e (ds6 _ he)) h.2,az5 x0 (lo e ds5) h.1]
theorem ap7:∀(es:List (Int×Int)) (t:List Int),(es.map (·.1)).Nodup->(∀e∈es,0<=e.1/\e.1 < (t.length:Int))->∀e∈es,A1 (t7 t es) e.1=some e.2
 |[],_,_,_,e,h=>by cases h
 |x::es,t,nd,b,e,h=>by
  rw[du9,dw4] at nd;have bx:=b x ds5;show A1 (t7 (t.set x.1.toNat x.2) es) e.1=_
  rcases dt7.mp h with rfl|h
  · rw[bc2 es _ bx.1 (fun e he=>(b e (ds6 _ he)).1) nd.1];exact av2 (by omega)
  · exact ap7 es _ nd.2 (fun e he=>by rw[ei6];exact b e (ds6 _ he)) e h
end
end My
namespace My
open PySem L2 Mth
section
theorem bg3 {p:List Int}{rs:List (List Int)}(up:y8 p p.length rs){r:List Int}(hr:r∈rs):Rg p r.length r:=by
 obtain ⟨y,L,hy,pr,er,_⟩:=up.ring r hr;exact ⟨y,hy,by rw[er,n9];exact pr,by rw[er,n9]⟩
theorem aj4 {p:List Int}(t:o6 p){l:Nat}{r:List Int}(h:Rg p l r){x:Int}(hx:x∈r):In p x/\D7 p x l/\G0 p x=l:=by
 obtain ⟨y,hy,py,rfl⟩:=h;obtain ⟨j,_,rfl⟩:=B9.mp hx;have:=py.shift t hy j;exact ⟨L1 t hy j,this,S6 this⟩
structure dq5 (p:List Int)(rs:List (List Int))(m k:Nat)(es:List (Int×Int))(w:List (List (List Int))):Prop where
 eq:es=N0 k m w
 perm:(w.map eh9).flatten.Perm (w9 rs k).flatten
 right:∀c∈w,M1 k m c.length
 rg:∀c∈w,∀r∈c,Rg p k r
 nd:(es.map (·.1)).Nodup
 keys:∀x∈es.map (·.1),In p x/\G0 p x=k
theorem bm2 {p:List Int}(t:o6 p)(lp:p.length<=40){rs:List (List Int)}(up:y8 p p.length rs){m k:Nat}(m1:1<=m)(k1:0 < k){es:List (Int×Int)}(h:es∈Y4 rs m k):∃w,dq5 p rs m k es w:=by
 obtain ⟨w,hw,rfl⟩:=dt0.mp h
 have fr:∀r∈w9 rs k,Rg p k r:=fun r hr=>by
   have:=bg3 up (E4 hr).1;rw[(E4 hr).2] at this;exact this
 have fl:=X9 t up
 have e1:=Q0 (l:=k) (rs:=w9 rs k) fun r hr=>(E4 hr).2
 have e2:=(N6 rs k).length_le;have k3:(w9 rs k).length<=40:=dt6 (dw6 _ k1) (by rw[<-e1];omega);have wo:=bb9 (l:=k) (m:=m) (ds:=o5 k m (l7 rs k)) (fun d hd=>(D0 hd).1) 40 k3 (fun r hr=>(E4 hr).2) hw
 have rr:∀c∈w,M1 k m c.length:=fun c hc=>M2 (wo.right c hc).1
 have fnd:=(N6 rs k).nodup up.nd;refine ⟨w,rfl,wo.perm,rr,co4 t (fun d hd=>(D0 hd).1) 40 k3 fr hw,bu6 k1 m1 w rr (wo.perm.nodup_iff.mpr fnd),fun x hx=> ?_⟩;obtain ⟨r,hr,hxr⟩:=du6.mp (wo.perm.mem_iff.mp ((ae3 k1 m1 w rr).1 x hx));obtain ⟨a,_,b⟩:=aj4 t (fr r hr) hxr;exact ⟨a,b⟩
theorem ax8 {p:List Int}{f:Nat->List (List (Int×Int))}:∀(ks:List Nat) {ess:List (List (Int×Int))},ks.Nodup->(∀k∈ks,∀es∈f k,(es.map (·.1)).Nodup/\∀x∈es.map (·.1),In p x/\G0 p x=k)->Pkd ess (ks.map f)->(ess.flatten.map (·.1)).Nodup/\(∀x∈ess.flatten.map (·.1),In p x/\G0 p x∈ks)/\∀k∈ks,∃es∈ess,es∈f k
 |[],ess,_,_,pk=>by
  cases pk;exact ⟨dz9,(fun x hx=>by cases hx),(fun k hk=>by cases hk)⟩
 |k::ks,ess,nk,h,pk=>by
  cases pk with
  |cons hes pk=>
   rename_i es ess;rw[dw4] at nk;obtain ⟨a,b,c⟩:=ax8 ks nk.2 (fun k hk=>h k (ds6 _ hk)) pk;obtain ⟨d,e⟩:=h k ds5 es hes;rw[dt9,dt1];refine ⟨?_,fun x hx=> ?_,fun k' hk'=> ?_⟩
   · rw[dy3];refine ⟨d,a,fun x hx y hy z=> ?_⟩;have e1:=(e x hx).2;have e2:=(b y hy).2;rw[<-z,e1] at e2;exact nk.1 e2
   · rcases dt4.mp hx with z|z
     · exact ⟨(e x z).1,by rw[(e x z).2];exact ds5⟩
     · exact ⟨(b x z).1,ds6 _ (b x z).2⟩
   · rcases dt7.mp hk' with rfl|hk'
     · exact ⟨es,ds5,hes⟩
     · obtain ⟨es',h1,h2⟩:=c k' hk';exact ⟨es',ds6 _ h1,h2⟩
theorem bk6 {p:List Int}{m:Nat}(tp:o6 p)(lp:p.length<=40)(m1:1<=m){ks:List Nat}(nk:ks.Nodup)(h1:∀k∈ks,∃r∈j9 p p.length,r.length=k)(h2:∀r∈j9 p p.length,r.length∈ks){t:List Int}(ht:t∈M9 p (ks.map (Y4 (j9 p p.length) m))):o6 t/\B7 t (m:Int) p:=by
 have up:=J4 tp;generalize j9 p p.length=rs at up h1 h2 ht
 have k0:∀k∈ks,0 < k:=fun k hk=>by
   obtain ⟨r,hr,e⟩:=h1 k hk;have:=(rsb tp up r hr).1;omega
 have hlen:=bk3 p _ t ht;obtain ⟨t0,h0,ess,pk,et⟩:=bv1 _ _ ht;rw[dt3.mp h0] at et
 obtain ⟨knd,kin,kall⟩:=ax8 (p:=p) ks nk (fun k hk es hes=>by
   obtain ⟨w,o⟩:=bm2 tp lp up m1 (k0 k hk) hes
   exact ⟨o.nd,o.keys⟩) pk
 have put:=ap7 ess.flatten p knd fun e he=>(kin e.1 (dt0.mpr ⟨e,he,rfl⟩)).1
 rw[<-et] at put
 have key:∀x,In p x->∃J,G3 t J/\ba2 p m J x:=fun x hx=>by
   obtain ⟨r0,hr0,hxr⟩:=du6.mp (up.all x hx.1 hx.2);obtain ⟨es,hes,hef⟩:=kall r0.length (h2 r0 hr0);have k1:=k0 _ (h2 r0 hr0);obtain ⟨w,o⟩:=bm2 tp lp up m1 k1 hef;have xf:x∈(w9 rs r0.length).flatten:=du6.mpr ⟨r0,by unfold w9;exact dx8.mpr ⟨hr0,decide_eq_true rfl⟩,hxr⟩;obtain ⟨cf,hcf,hxc⟩:=du6.mp (o.perm.mem_iff.mpr xf);obtain ⟨c,hc,rfl⟩:=dt0.mp hcf;obtain ⟨row,hrow,hxrow⟩:=du6.mp hxc;obtain ⟨a,ha⟩:=dv7.mp hrow;have al:=(ds3.mp ha).1
   have rows:∀r∈c,r.length=r0.length:=fun r hr=>Y5 (o.rg c hc r hr)
   obtain ⟨kk,e1,e2,js⟩:=ax7 k1 m1 (o.right c hc) rows;obtain ⟨y,hy,py,er⟩:=o.rg c hc row hrow;rw[er] at hxrow;obtain ⟨b,hb,ex⟩:=B9.mp hxrow;have pm:=js.perm k1 e2
   have cnd:c.flatten.Nodup:=by
     have n1:((w.map eh9).flatten).Nodup:=o.perm.nodup_iff.mpr ((N6 rs _).nodup up.nd);exact (List.pairwise_flatten.mp n1).1 _ (dt0.mpr ⟨c,hc,rfl⟩)
   refine ⟨C0 r0.length m c,⟨fun z=> ?_,pm.nodup_iff.mpr cnd,fun z hz=> ?_,fun j hj=> ?_⟩,r0.length,kk,c,a,b,y,k1,e1,e2,rows,js,al,hb,hy,py,by rw[ds7,ha];exact er,ex⟩
   · have:=js.len;rw[z] at this;have p1:0 < c.length*r0.length:=ea3 (by omega) k1;rw[<-this] at p1;exact absurd p1 (by simp)
   · obtain ⟨r,hr,hzr⟩:=du6.mp (pm.mem_iff.mp hz);exact (aj4 tp (o.rg c hc r hr) hzr).1.1
   · refine put ((C0 r0.length m c).getD j 0,(C0 r0.length m c).getD ((j+1)%(C0 r0.length m c).length) 0) (du6.mpr ⟨es,hes,?_⟩);rw[o.eq];exact dx7.mpr ⟨c,hc,dt0.mpr ⟨j,dv0.mpr hj,rfl⟩⟩
 have qs:∀n,n<=p.length->∃qs:List (List Int),(∀J∈qs,G3 t J)/\∀x:Int,0<=x->x < (n:Int)->∃J∈qs,ba2 p m J x:=fun n=>by
   induction n with
   |zero=>exact fun _=>⟨[],(fun J hJ=>by cases hJ),fun x a b=>by omega⟩
   |succ n ih=>
    intro hn;obtain ⟨qs,a,b⟩:=ih (by omega);obtain ⟨J,c,d⟩:=key (n:Int) ⟨by omega,by omega⟩;refine ⟨J::qs,fun J' hJ'=> ?_,fun x x0 x1=> ?_⟩
    · rcases dt7.mp hJ' with rfl|z
      · exact c
      · exact a J' z
    · by_cases e:x=(n:Int)
      · rw[e];exact ⟨J,ds5,d⟩
      · obtain ⟨J',h1,h2⟩:=b x x0 (by omega);exact ⟨J',ds6 _ h1,h2⟩
 obtain ⟨qs,a,b⟩:=qs p.length (ds4 _)
 exact bz1 tp hlen a fun x hx=>b x hx.1 hx.2
theorem am1.root {p:List Int}{m:Nat}{ts:List (List Int)}(h:am1 p m ts)(tp:o6 p)(lp:p.length<=40)(m1:1<=m):∀t∈ts,o6 t/\B7 t (m:Int) p:=fun t ht=>by
 rcases h.src with z|⟨ks,nk,h1,h2,pr⟩
 · have:=h.len;rw[z] at this;rw[eg3.mp this] at ht;cases ht
 · exact bk6 tp lp m1 nk h1 h2 (pr.mem_iff.mp ht)
end
end My
namespace My
open PySem L2 Mth
section
theorem Y6 {α β:Type}{f:α->List β}{q:β->Bool}{g:α->Bool}:∀{xs:List α},(∀x∈xs,(f x).countP q=if g x=true then 1 else 0)->(xs.flatMap f).countP q=xs.countP g
 |[],_=>rfl
 |x::xs,h=>by
  rw[dy7,ed1,h x ds5,Y6 fun y hy=>h y (ds6 _ hy),ed0,ec4]
theorem co6 {z:Int}:∀{xs:List Int},xs.Nodup->z∈xs->xs.countP (fun x=>decide (x=z))=1
 |x::xs,nd,h=>by
  rw[dw4] at nd;rw[ed0]
  by_cases c:x=z
  · rw[if_pos (decide_eq_true c),ea7.mpr fun y hy e=>nd.1 (by rw[c,<-of_decide_eq_true e];exact hy)]
  · rw[if_neg (by rw[decide_eq_false c];decide),co6 nd.2 ((dt7.mp h).resolve_left fun e=>c e.symm)]
theorem cb9 {z:Nat}:∀{xs:List Nat},xs.Nodup->z∈xs->xs.countP (fun x=>decide (x=z))=1
 |x::xs,nd,h=>by
  rw[dw4] at nd;rw[ed0]
  by_cases c:x=z
  · rw[if_pos (decide_eq_true c),ea7.mpr fun y hy e=>nd.1 (by rw[c,<-of_decide_eq_true e];exact hy)]
  · rw[if_neg (by rw[decide_eq_false c];decide),cb9 nd.2 ((dt7.mp h).resolve_left fun e=>c e.symm)]
theorem bc3 (rs:List (List Int)):∀i,i<=rs.length->(D4 rs i).map (fun y=>y.1.getD 0 0)=(rs.take i).flatten
 |0,_=>rfl
 |i+1,h=>by
  show (D4 rs i++Y3 rs i (rs.getD i [])).map _=_
  have il:i < rs.length:=by omega
  have eg:rs.getD i []=rs[i]:=by rw[ds7,ds2 il];rfl
  rw[dt1,bc3 rs i (by omega),em2,ds2 il,dx0]
  congr 1
  show _=[rs[i]].flatten;rw[dz6,eg];unfold Y3;rw[dw5]
  refine dx9 fun b=> ?_
  rw[ds9]
  by_cases hb:b < rs[i].length
  · rw[dw9 hb,ds2 hb];show some ((rs[i].drop b++rs[i].take b).getD 0 0)=_;rw[ds7,dv8 (by rw[dx1];omega),eg4,ea9,ds2 hb];rfl
  · rw[dt5 (by rw[dw1];omega),dt5 (by omega)];rfl
theorem cu5 {rs:List (List Int)}(nd:rs.flatten.Nodup){z:Int}(hz:z∈rs.flatten):(D4 rs rs.length).countP (fun y=>decide (y.1.getD 0 0=z))=1:=by
 have e:=bc3 rs rs.length (ds4 _);rw[du7] at e
 have h:((D4 rs rs.length).map (fun y=>y.1.getD 0 0)).countP (fun x=>decide (x=z))=1:=by
   rw[e];exact co6 nd hz
 rw[dz0] at h;exact h
theorem am9:∀{a b:List Int},a.Nodup->(∀x∈a,x∈b)->a.length<=b.length
 |[],_,_,_=>du3 _
 |x::a,b,nd,h=>by
  rw[dw4] at nd;have hx:=h x ds5
  have:=am9 (b:=b.erase x) nd.2 fun y hy=>(List.mem_erase_of_ne (fun (e:y=x)=>nd.1 (by rw[<-e];exact hy))).mpr (h y (ds6 _ hy))
  rw[List.length_erase_of_mem hx] at this;have:=List.length_pos_of_mem hx;rw[dv9];omega
def hdC (c:List (List Int)):List Int:=c.map fun r=>r.getD 0 0
theorem cc0 {p:List Int}{l:Nat}(l0:0 < l){r:List Int}(h:Rg p l r):r=m7 p (r.getD 0 0) l/\In p (r.getD 0 0)/\D7 p (r.getD 0 0) l:=by
 obtain ⟨y,hy,py,rfl⟩:=h
 have e:(m7 p y l).getD 0 0=y:=by rw[ds7,T5 l0];rfl
 rw[e];exact ⟨rfl,hy,py⟩
theorem am2 {p:List Int}{l:Nat}(l0:0 < l){c:List (List Int)}(h:∀r∈c,Rg p l r):c=(hdC c).map fun z=>m7 p z l:=by
 unfold hdC;rw[dw5]
 conv=>lhs;rw[<-ek3 c]
 exact dx6 fun r hr=>(cc0 l0 (h r hr)).1
theorem ax9 {l:Nat}{rs:List (List Int)}(hl:∀r∈rs,r.length=l)(nd:rs.flatten.Nodup){k:Nat}{x:List (List Int)×List (List Int)}(hk:k < rs.length)(hx:x∈v9 rs k):x.1.flatten.Nodup/\x.2.flatten.Nodup/\(∀u∈x.1.flatten,u∉x.2.flatten)/\∀u,u∈rs.flatten↔u∈x.1.flatten\/u∈x.2.flatten:=by
 have o:=D6 hl k hk hx;have n:=o.perm.nodup_iff.mpr nd;rw[dy3] at n;exact ⟨n.1,n.2.1,fun u h1 h2=>n.2.2 u h1 u h2 rfl,fun u=>by rw[<-o.perm.mem_iff,dt4]⟩
theorem bk7 {p:List Int}(tp:o6 p){l:Nat}(l0:0 < l){rs:List (List Int)}(hr:∀r∈rs,Rg p l r)(nd:rs.flatten.Nodup){z:Nat->Int}(h0:(rs.getD 0 []).getD 0 0=z 0){n:Nat}(hz:∀a,a < n->z a∈rs.flatten)(ap:∀a b,a < b->b < n->z b∉m7 p (z a) l):∀k,k < rs.length->k < n->(v9 rs k).countP (fun x=>decide (hdC x.1=(dv4 (k+1)).map z))=1
 |0,hk,_=>by
  show List.countP _ [([rs.getD 0 []],rs.drop 1)]=1;rw[ee4,if_pos];refine decide_eq_true ?_;show [(rs.getD 0 []).getD 0 0]=[z 0];rw[h0]
 |k+1,hk,hn=>by
  show ((v9 rs k).flatMap nxC).countP _=1;rw[Y6 (g:=fun x=>decide (hdC x.1=(dv4 (k+1)).map z)),bk7 tp l0 hr nd h0 hz ap k (by omega) (by omega)];intro x hx;have o:=D6 (fun r hr'=>Y5 (hr r hr')) k (by omega) hx;obtain ⟨n1,n2,n3,n4⟩:=ax9 (fun r hr'=>Y5 (hr r hr')) nd (by omega) hx;unfold nxC;rw[dz0]
  by_cases c:hdC x.1=(dv4 (k+1)).map z
  · rw[if_pos (decide_eq_true c)]
    have hzk:z (k+1)∈x.2.flatten:=by
      refine ((n4 _).mp (hz (k+1) hn)).resolve_left fun w=> ?_
      rw[am2 l0 (ae4 tp hr k (by omega) hx),c,dw5] at w;obtain ⟨r,hr',hw⟩:=du6.mp w;obtain ⟨a,ha,rfl⟩:=dt0.mp hr';exact ap a (k+1) (dv0.mp ha) hn hw
    refine Eq.trans ?_ (cu5 n2 hzk)
    refine dz3 fun y hy=> ?_
    show decide (hdC (x.1++[y.1])=(dv4 (k+1+1)).map z)=true↔decide (y.1.getD 0 0=z (k+1))=true;rw[ef1,dt1,decide_eq_true_iff,decide_eq_true_iff];unfold hdC at c ⊢;rw[dt1,c];constructor
    · intro e;have:=List.append_cancel_left e;exact (List.cons.inj this).1
    · intro e;show _++[y.1.getD 0 0]=_++[z (k+1)];rw[e]
  · rw[if_neg (by rw[decide_eq_false c];decide),ea7];intro y hy e;have e:hdC (x.1++[y.1])=(dv4 (k+1+1)).map z:=of_decide_eq_true e;unfold hdC at c e;rw[ef1,dt1,dt1] at e;refine c (List.append_inj e ?_).1;rw[ds1,ds1,dw1,o.len]
end
end My
namespace My
open PySem L2 Mth
section
theorem di8 {t:List Int}(tt:o6 t){x:Int}(hx:In t x){L:Nat}(h:D7 t x L){i j:Nat}(hi:i < L)(hj:j < L)(e:it t i x=it t j x):i=j:=by
 have key:∀{i j:Nat},i<=j->j < L->it t i x=it t j x->i=j:=fun {i j} c hj e=>by
   have e2:it t (j - i) (it t i x)=it t i x:=by rw[<-D1,ee2 c,e]
   obtain ⟨q,hq⟩:=by7 (h.shift tt hx i) e2
   rcases q with _|q
   · omega
   · rw[en4] at hq;omega
 rcases Nat.le_total i j with c|c
 · exact key c hj e
 · exact (key c hi e.symm).symm
theorem as4 {p t:List Int}{m:Nat}(tt:o6 t)(pw:B7 t (m:Int) p){x:Int}(hx:In t x)(i:Nat):it p i x=it t (m*i) x:=by
 obtain ⟨L,hL⟩:=ba0 tt hx;exact ba4 tt pw hx hL (by rw[Int.sub_self];rfl) i
structure aj5 (t:List Int)(m l:Nat)(x:Int)(d k:Nat):Prop where
 per:D7 t x (d*l)
 d1:1<=d
 em:m=d*k
 co:du0 l k=1
 right:du0 (d*l) m=d
theorem dc8 {p t:List Int}{m l:Nat}(tt:o6 t)(pw:B7 t (m:Int) p){x:Int}(hx:In t x)(hl:D7 p x l):∃d k,aj5 t m l x d k:=by
 obtain ⟨L,hL⟩:=ba0 tt hx;have el:=hl.uniq (bz2 tt pw hx hL (m:=m) (by rw[Int.sub_self];rfl));have gp:0 < du0 L m:=ej4 _ hL.pos;have cp:du0 (L/du0 L m) (m/du0 L m)=1:=eh7 gp
 have e1:L=du0 L m*l:=by rw[el,ei4 (ef9 L m)]
 have e2:m=du0 L m*(m/du0 L m):=(ei4 (ea2 L m)).symm;refine ⟨du0 L m,m/du0 L m,by rw[<-e1];exact hL,gp,e2,by rw[el];exact cp,by rw[<-e1]⟩
theorem aj5.apart {p t:List Int}{m l:Nat}(tt:o6 t)(pw:B7 t (m:Int) p){x:Int}(hx:In t x){d k:Nat}(h:aj5 t m l x d k)(l0:0 < l){a b:Nat}(hab:a < b)(hb:b < d):it t b x∉m7 p (it t a x) l:=fun w=>by
 obtain ⟨j,hj,e⟩:=B9.mp w;rw[as4 tt pw (L1 tt hx a),<-D1,<-U3 h.per.back (m*j+a)] at e;have dl:d<=d*l:=dw6 _ l0;have e1:=di8 tt hx h.per (i:=b) (j:=(m*j+a)%(d*l)) (by omega) (ea6 _ (by omega)) e
 have e2:b%d=a%d:=by
   rw[e1,Nat.mod_mod_of_dvd _ (Nat.dvd_mul_right d l),h.em,dx3,en9]
 rw[dy0 hb,dy0 (show a < d by omega)] at e2;omega
def ag0 (p t:List Int)(x:Int)(l d:Nat):List (List Int):=(dv4 d).map fun a=>m7 p (it t a x) l
theorem ap8 (p t:List Int)(x:Int)(l d:Nat):(ag0 p t x l d).length=d:=by unfold ag0;rw[ds1,dw1]
theorem aj5.join {p t:List Int}{m l:Nat}(tt:o6 t)(pw:B7 t (m:Int) p){x:Int}(hx:In t x){d k:Nat}(h:aj5 t m l x d k)(l0:0 < l):C5 l k (ag0 p t x l d) (m7 t x (d*l)):=by
 have rl:=ap8 p t x l d
 have rows:∀r∈ag0 p t x l d,r.length=l:=fun r hr=>by
   obtain ⟨a,_,rfl⟩:=dt0.mp hr;exact n9 _ _ _
 have fg:=ad0 l0 rows;refine ⟨by rw[n9,rl],?_⟩;rw[rl]
 refine dx9 fun n=> ?_
 rw[ds9,ds9]
 by_cases hn:n < d*l
 · have en:n/l*l+n%l=n:=by rw[dy8];exact el4 n l
   have ha:=ar2 hn;have hb:=ea6 n l0;have f1:=fg.2 (n/l) (n%l) (by rw[rl];exact ha) hb;rw[en] at f1
   have g1:(ag0 p t x l d).getD (n/l) []=m7 p (it t (n/l) x) l:=by
     unfold ag0;rw[ds7,ds9,dw9 ha];rfl
   rw[f1,g1,T5 hb];unfold O4;rw[ds9,dw9 hn];have pl:=ai5 (k:=k) (step:=n%l) ha l0;show some (A1 (m7 t x (d*l)) ((G6 d l k (n/l) (n%l):Nat):Int))=some (some _);unfold A1;rw[dx5,T5 pl,as4 tt pw (L1 tt hx _),<-D1,<-bd7 ha l0,U3 h.per.back,<-h.em,ec4,dy8]
 · rw[dt5 (by rw[W5];omega),dt5 (by rw[fg.1,rl];omega)];rfl
def O0 (t:List Int)(es:List (Int×Int)):Bool:=es.all fun e=>decide (nx t e.1=e.2)
theorem bg4 (t:List Int)(a b:List (Int×Int)):O0 t (a++b)=(O0 t a&&O0 t b):=List.all_append
theorem bg5 {t:List Int}{es:List (Int×Int)}:O0 t es=true↔∀e∈es,nx t e.1=e.2:=by
 unfold O0;rw[ec2];exact ⟨fun h e he=>of_decide_eq_true (h e he),fun h e he=>decide_eq_true (h e he)⟩
theorem cu6 {p t:List Int}{m l:Nat}(tp:o6 p)(tt:o6 t)(pw:B7 t (m:Int) p)(m1:1<=m)(l0:0 < l){c:List (List Int)}(hc:∀r∈c,Rg p l r)(nd:c.flatten.Nodup)(rd:M1 l m c.length){x:Int}{d k:Nat}(ra:aj5 t m l x d k)(hx:In t x)(h0:(c.getD 0 []).getD 0 0=x):
   O0 t (C8 (C0 l m c))=true↔c.length=d/\hdC c=(dv4 d).map fun a=>it t a x:=by
 have rows:∀r∈c,r.length=l:=fun r hr=>Y5 (hc r hr)
 have pt:p.length=t.length:=pw.1;constructor
 · intro ok;have ok:=bg5.mp ok;obtain ⟨kk,e1,e2,js⟩:=ax7 l0 m1 rd rows;generalize C0 l m c=J at ok js;have pm:=js.perm l0 e2;have Jl:=js.len;have c1:c.length<=c.length*l:=dw6 _ l0
   have inJ:∀u∈J,In p u:=fun u hu=>by
     obtain ⟨r,hr,hur⟩:=du6.mp (pm.mem_iff.mp hu);exact (aj4 tp (hc r hr) hur).1
   have ro:G3 t J:=⟨fun z=>by
       rw[z] at Jl;have:=rd.1;simp only[ef0] at Jl
       omega,pm.nodup_iff.mpr nd,fun u hu=>(inJ u hu).1,fun j hj=>by
       have hm:J.getD j 0∈J:=by rw[N3 hj];exact dw2 hj
       have hi:=inJ _ hm;rw[ai2 (p:=t) ⟨hi.1,by rw[<-pt];exact hi.2⟩]
       exact congrArg some (ok (J.getD j 0,J.getD ((j+1)%J.length) 0) (dt0.mpr ⟨j,dv0.mpr hj,rfl⟩))⟩
   have pos0:∀a,G6 c.length l kk a 0=a:=fun a=>by
     unfold G6;rw[ed7,Nat.zero_mod,ee9,ea9]
   have J0:J.getD 0 0=x:=by
     have:=js.get l0 rows (a:=0) (b:=0) (by have:=rd.1;omega) l0;rw[pos0] at this;rw[this,h0]
   have jl0:0 < J.length:=by have:=rd.1;omega
   have pr:=ro.per jl0;rw[J0,Jl] at pr;have ed:c.length=d:=Nat.eq_of_mul_eq_mul_right l0 (pr.uniq ra.per);refine ⟨ed,?_⟩
   refine dx9 fun a=> ?_
   unfold hdC;rw[ds9,ds9]
   by_cases ha:a < c.length
   · rw[dw9 (by omega),ds2 ha];have g:=js.get l0 rows (a:=a) (b:=0) ha l0;rw[pos0] at g;have i1:=ro.it jl0 a;rw[J0,ee8,dy0 (by omega),g] at i1
     have eg:c.getD a []=c[a]:=by rw[ds7,ds2 ha];rfl
     rw[eg] at i1;exact congrArg some i1.symm
   · rw[dt5 (by omega),dt5 (by rw[dw1];omega)];rfl
 · rintro ⟨ed,eh⟩
   have ec:c=ag0 p t x l d:=by
     rw[am2 l0 hc,eh,dw5];rfl
   have j:=ra.join tt pw hx l0
   have ej:C0 l m c=m7 t x (d*l):=by
     rw[ec];exact ax2 l0 (by rw[ap8];exact ra.d1) (by rw[ap8];exact ra.em) ra.co j
   rw[ej,bg5];intro e he;obtain ⟨i,hi,rfl⟩:=dt0.mp he;have hi:=dv0.mp hi;rw[n9] at hi;show nx t ((m7 t x (d*l)).getD i 0)=(m7 t x (d*l)).getD ((i+1)%(m7 t x (d*l)).length) 0
   have hp:0 < d*l:=by omega
   rw[n9,ds7,T5 hi,ds7,T5 (ea6 _ hp),U3 ra.per.back];rfl
theorem bc4 {rs:List (List Int)}:∀(k:Nat) {x:List (List Int)×List (List Int)},x∈v9 rs k->x.1.getD 0 []=rs.getD 0 []
 |0,x,h=>by rw[dt3.mp h];rfl
 |k+1,x,h=>by
  obtain ⟨x',h',z⟩:=dx7.mp h;obtain ⟨y,hy,rfl⟩:=dt0.mp z;have l1:=(ap4 k h').2.2;rw[<-bc4 k h'];show (x'.1++[y.1]).getD 0 []=_;rw[ds7,dv8 (by omega),ds7]
theorem cg2 (l m n:Nat):(o5 l m n).Nodup:=by
 unfold o5;refine List.Nodup.sublist em1 ?_;rw[du4,eb6]
 exact (du4.mp eb2).imp fun h e=>h (by omega)
theorem cg3 {l m n d:Nat}(d1:1<=d)(dn:d<=n)(h:du0 (d*l) m=d):d∈o5 l m n:=by
 unfold o5;exact dx8.mpr ⟨dt0.mpr ⟨d - 1,dv0.mpr (by omega),by omega⟩,decide_eq_true h⟩
theorem bv2 {p t:List Int}{m l n:Nat}(tp:o6 p)(tt:o6 t)(pw:B7 t (m:Int) p)(m1:1<=m)(l0:0 < l):∀(f:Nat) {rs:List (List Int)},rs.length<=f->rs.length<=n->(∀r∈rs,Rg p l r)->rs.flatten.Nodup->(∀u∈rs.flatten,nx t u∈rs.flatten)->
   (A6 (o5 l m n) f rs).countP (fun w=>O0 t (N0 l m w))=1
 |0,rs,hf,_,_,_,_=>rfl
 |f+1,rs,hf,hn,hr,nd,cl=>by
  unfold A6
  by_cases c:rs.length=0
  · rw[if_pos c];rfl
  · rw[if_neg c]
    have rl:∀r∈rs,r.length=l:=fun r hr'=>Y5 (hr r hr')
    have pt:p.length=t.length:=pw.1
    have g0:rs.getD 0 []∈rs:=by
      rw[ds7,ds2 (show 0 < rs.length by omega)];exact dw2 _
    obtain ⟨h1,h2,h3⟩:=cc0 l0 (hr _ g0)
    have x0m:(rs.getD 0 []).getD 0 0∈rs.flatten:=du6.mpr ⟨_,g0,by
      have hl:=rl _ g0;rw[N3 (show 0 < (rs.getD 0 []).length by omega)]
      exact dw2 _⟩
    generalize e0:(rs.getD 0 []).getD 0 0=x at h1 h2 h3 x0m;have hx:In t x:=⟨h2.1,by rw[<-pt];exact h2.2⟩;obtain ⟨d,k,ra⟩:=dc8 tt pw hx h3
    have zin:∀a,it t a x∈rs.flatten:=fun a=>by
      induction a with
      |zero=>exact x0m
      |succ a ih=>exact cl _ ih
    have fl:=Q0 rl
    have dle:d<=rs.length:=by
      have:=am9 (X2 tt hx ra.per.least) (b:=rs.flatten) (fun u hu=>by
        obtain ⟨j,_,rfl⟩:=B9.mp hu
        exact zin j)
      rw[n9,fl] at this;exact Nat.le_of_mul_le_mul_right this l0
    have din:d∈o5 l m n:=cg3 ra.d1 (by omega) ra.right
    have ap:∀a b,a < b->b < d->it t b x∉m7 p (it t a x) l:=fun a b h1 h2=>ra.apart tt pw hx l0 h1 h2
    rw[Y6 (g:=fun d'=>decide (d'=d)),cb9 (cg2 l m n) din];intro d' hd';have d1:=(D0 hd').1;unfold Q9
    by_cases c2:d'<=rs.length
    · rw[if_pos c2]
      have okc:∀x'∈v9 rs (d' - 1),(O0 t (C8 (C0 l m x'.1))=true↔x'.1.length=d/\hdC x'.1=(dv4 d).map fun a=>it t a x):=fun x' hx'=>by
        have o:=D6 rl (d' - 1) (by omega) hx';obtain ⟨n1,n2,n3,n4⟩:=ax9 rl nd (by omega) hx';refine cu6 tp tt pw m1 l0 (ae4 tp hr (d' - 1) (by omega) hx') n1 ?_ ra hx (by rw[bc4 _ hx',e0]);rw[o.len,ee2 d1];exact M2 hd'
      rw[Y6 (g:=fun x'=>O0 t (C8 (C0 l m x'.1)))]
      · by_cases c3:d'=d
        · subst c3;rw[if_pos (decide_eq_true rfl)];have:=bk7 tp l0 hr nd (z:=fun a=>it t a x) e0 (n:=d') (fun a _=>zin a) ap (d' - 1) (by omega) (by omega);refine Eq.trans ?_ this
          refine dz3 fun x' hx'=> ?_
          have o:=D6 rl (d' - 1) (by omega) hx';rw[okc x' hx',decide_eq_true_iff,o.len,ee2 d1];exact ⟨fun h=>h.2,fun h=>⟨rfl,h⟩⟩
        · rw[if_neg (by rw[decide_eq_false c3];decide),ea7];intro x' hx' ok;have o:=D6 rl (d' - 1) (by omega) hx';have:=((okc x' hx').mp ok).1;rw[o.len,ee2 d1] at this;exact c3 this
      · intro x' hx';have o:=D6 rl (d' - 1) (by omega) hx';obtain ⟨n1,n2,n3,n4⟩:=ax9 rl nd (by omega) hx';rw[dz0]
        have ee:∀w,O0 t (N0 l m (w++[x'.1]))=(O0 t (N0 l m w)&&O0 t (C8 (C0 l m x'.1))):=fun w=>by rw[bu2,bg4]
        by_cases c3:O0 t (C8 (C0 l m x'.1))=true
        · rw[if_pos c3];refine Eq.trans ?_ (bv2 (n:=n) tp tt pw m1 l0 f (rs:=x'.2) (by have:=o.left;omega) (by have:=o.left;omega) (fun r hr'=>hr r (o.rows2 r hr')) n2 ?_)
          · refine dz3 fun w hw=> ?_
            show O0 t (N0 l m (w++[x'.1]))=true↔_;rw[ee,c3,Bool.and_true]
          · intro u hu;have hur:u∈rs.flatten:=(n4 u).mpr (.inr hu)
            refine ((n4 _).mp (cl u hur)).resolve_left fun w=> ?_
            obtain ⟨q1,q2⟩:=(okc x' hx').mp c3
            have ec:x'.1=ag0 p t x l d:=by
              rw[am2 l0 (ae4 tp hr (d' - 1) (by omega) hx'),q2,dw5];rfl
            have pm:=(ra.join (p:=p) tt pw hx l0).perm l0 ra.co;rw[<-ec] at pm;have w:=pm.mem_iff.mpr w;obtain ⟨j,hj,e⟩:=B9.mp w;obtain ⟨r,hr',hur'⟩:=du6.mp hur;have hui:=(aj4 tp (hr r hr') hur').1;have hut:In t u:=⟨hui.1,by rw[<-pt];exact hui.2⟩
            have e3:nx t u=nx t (it t (j+(d*l - 1)) x):=by
              rw[e];show it t j x=it t (j+(d*l - 1)+1) x;have:=ra.per.pos;rw[show j+(d*l - 1)+1=j+d*l by omega,D1,ra.per.back]
            have e4:=bo5 tt hut (L1 tt hx _) e3;rw[<-U3 ra.per.back] at e4;have:u∈m7 t x (d*l):=B9.mpr ⟨_,ea6 _ ra.per.pos,e4⟩;exact n3 u (pm.mem_iff.mp this) hu
        · rw[if_neg c3,ea7];intro w hw ok;have ok:O0 t (N0 l m (w++[x'.1]))=true:=ok;rw[ee,ed8] at ok;exact c3 ok.2
    · rw[if_neg c2,if_neg (by rw[decide_eq_false (show ¬d'=d by omega)];decide)];rfl
end
end My
namespace My
open PySem L2 Mth
section
def V7:List (List (List (Int×Int)))->List (List (Int×Int))
 |[]=>[[]]
 |c::chs=>c.flatMap fun es=>(V7 chs).map fun e=>es++e
theorem cg4 (t:List Int)(a b:List (Int×Int)):t7 t (a++b)=t7 (t7 t a) b:=by
 unfold t7;exact ej9
theorem au6:∀(chs:List (List (List (Int×Int)))) (laid:List (List Int)),chs.foldl M8 laid=laid.flatMap fun t0=>(V7 chs).map (t7 t0)
 |[],laid=>by
  show laid=laid.flatMap fun t0=>[t0]
  induction laid with
  |nil=>rfl
  |cons x xs ih=>rw[dy7,<-ih];rfl
 |c::chs,laid=>by
  show chs.foldl M8 (M8 laid c)=_;rw[au6 chs];unfold M8;rw[List.flatMap_assoc];refine congrArg (fun f=>List.flatMap f laid) (funext fun t0=> ?_);show (c.map (t7 t0)).flatMap (fun t1=>(V7 chs).map (t7 t1))=(c.flatMap fun es=>(V7 chs).map fun e=>es++e).map (t7 t0);rw[List.flatMap_map,List.map_flatMap];refine congrArg (fun f=>List.flatMap f c) (funext fun es=> ?_);show (V7 chs).map (t7 (t7 t0 es))=((V7 chs).map fun e=>es++e).map (t7 t0);rw[dw5]
  exact dx6 fun e _=>(cg4 t0 es e).symm
theorem bc5:∀{chs:List (List (List (Int×Int)))} {e:List (Int×Int)},e∈V7 chs->∃ess,Pkd ess chs/\e=ess.flatten
 |[],e,h=>⟨[],.nil,dt3.mp h⟩
 |c::chs,e,h=>by
  obtain ⟨es,hes,z⟩:=dx7.mp h;obtain ⟨e',he',rfl⟩:=dt0.mp z;obtain ⟨ess,pk,rfl⟩:=bc5 he';exact ⟨es::ess,.cons hes pk,rfl⟩
theorem bc6 {t:List Int}{f:Nat->List (List (Int×Int))}:∀{ks:List Nat},(∀k∈ks,(f k).countP (O0 t)=1)->(V7 (ks.map f)).countP (O0 t)=1
 |[],_=>rfl
 |k::ks,h=>by
  show ((f k).flatMap fun es=>(V7 (ks.map f)).map fun e=>es++e).countP (O0 t)=1;rw[Y6 (g:=O0 t),h k ds5];intro es hes;rw[dz0]
  by_cases c:O0 t es=true
  · rw[if_pos c];refine Eq.trans (dz3 fun e _=> ?_) (bc6 fun k hk=>h k (ds6 _ hk));show O0 t (es++e)=true↔_;rw[bg4,c,Bool.true_and]
  · rw[if_neg c,ea7];intro e _ z;have z:O0 t (es++e)=true:=z;rw[bg4,ed8] at z;exact c z.1
theorem cu7 {p t:List Int}{m l:Nat}(tp:o6 p)(tt:o6 t)(pw:B7 t (m:Int) p){u:Int}(hu:In p u)(h:D7 p u l):D7 p (nx t u) l:=by
 have pt:p.length=t.length:=pw.1
 have tr:∀y,In p y->In t y:=fun y hy=>⟨hy.1,by rw[<-pt];exact hy.2⟩
 have com:∀i,it p i (nx t u)=nx t (it p i u):=fun i=>by
   rw[as4 tt pw (cd7 tt (tr u hu)),as4 tt pw (tr u hu)];show it t (m*i) (it t 1 u)=it t (m*i+1) u;rw[<-D1]
 refine ⟨h.pos,by rw[com,h.back],fun i i0 i1 e=> ?_⟩;rw[com] at e;exact h.least i i0 i1 (bo5 tt (tr _ (L1 tp hu i)) (tr u hu) e)
theorem di9 {p t:List Int}{m k:Nat}(tp:o6 p)(lp:p.length<=40)(tt:o6 t)(pw:B7 t (m:Int) p)(m1:1<=m)(k0:0 < k){rs:List (List Int)}(up:y8 p p.length rs):(Y4 rs m k).countP (O0 t)=1:=by
 have pt:p.length=t.length:=pw.1
 have fr:∀r∈w9 rs k,Rg p k r:=fun r hr=>by
   have:=bg3 up (E4 hr).1;rw[(E4 hr).2] at this;exact this
 have fl:=X9 tp up
 have e1:=Q0 (l:=k) (rs:=w9 rs k) fun r hr=>(E4 hr).2
 have e2:=(N6 rs k).length_le;have k3:(w9 rs k).length<=40:=dt6 (dw6 _ k0) (by rw[<-e1];omega);unfold Y4;rw[dz0]
 refine bv2 tp tt pw m1 k0 40 k3 (by rw[Q4];exact ds4 _) fr ((N6 rs k).nodup up.nd) fun u hu=> ?_
 obtain ⟨r,hr,hur⟩:=du6.mp hu;obtain ⟨a,b,_⟩:=aj4 tp (fr r hr) hur;have hn:=cu7 tp tt pw a b
 have hin:In p (nx t u):=by
   have:=cd7 tt (x:=u) ⟨a.1,by rw[<-pt];exact a.2⟩;exact ⟨this.1,by rw[pt];exact this.2⟩
 obtain ⟨r2,hr2,h2⟩:=du6.mp (up.all _ hin.1 hin.2);have e:=(aj4 tp (bg3 up hr2) h2).2.1.uniq hn;exact du6.mpr ⟨r2,by unfold w9;exact dx8.mpr ⟨hr2,decide_eq_true e⟩,h2⟩
theorem bv3 {p t:List Int}{m:Nat}(tp:o6 p)(lp:p.length<=40)(tt:o6 t)(pw:B7 t (m:Int) p)(m1:1<=m){ks:List Nat}(nk:ks.Nodup)(h1:∀k∈ks,∃r∈j9 p p.length,r.length=k)(h2:∀r∈j9 p p.length,r.length∈ks):(M9 p (ks.map (Y4 (j9 p p.length) m))).countP (fun u=>decide (u=t))=1:=by
 have up:=J4 tp;generalize j9 p p.length=rs at up h1 h2 ⊢;have pt:p.length=t.length:=pw.1
 have k0:∀k∈ks,0 < k:=fun k hk=>by
   obtain ⟨r,hr,e⟩:=h1 k hk;have:=(rsb tp up r hr).1;omega
 unfold M9;rw[au6,dy7,ee0,du8,dz0];refine Eq.trans (dz3 fun es hes=> ?_) (bc6 (t:=t) fun k hk=>di9 tp lp tt pw m1 (k0 k hk) up);show decide (t7 p es=t)=true↔O0 t es=true;obtain ⟨ess,pk,rfl⟩:=bc5 hes
 obtain ⟨knd,kin,kall⟩:=ax8 (p:=p) ks nk (fun k hk es hes=>by
   obtain ⟨w,o⟩:=bm2 tp lp up m1 (k0 k hk) hes
   exact ⟨o.nd,o.keys⟩) pk
 have put:=ap7 ess.flatten p knd fun e he=>(kin e.1 (dt0.mpr ⟨e,he,rfl⟩)).1
 rw[decide_eq_true_iff,bg5];constructor
 · intro e x hx;have a:=put x hx;have b:=(kin x.1 (dt0.mpr ⟨x,hx,rfl⟩)).1;rw[e,ai2 ⟨b.1,by rw[<-pt];exact b.2⟩] at a;exact Option.some.inj a
 · intro ok
   refine dx9 fun i=> ?_
   by_cases hi:i < p.length
   · have hx:In p (i:Int):=⟨by omega,by omega⟩;obtain ⟨r0,hr0,hxr⟩:=du6.mp (up.all _ hx.1 hx.2);obtain ⟨es,hes,hef⟩:=kall r0.length (h2 r0 hr0);have k1:=k0 _ (h2 r0 hr0);obtain ⟨w,o⟩:=bm2 tp lp up m1 k1 hef;have xf:(i:Int)∈(w9 rs r0.length).flatten:=du6.mpr ⟨r0,by unfold w9;exact dx8.mpr ⟨hr0,decide_eq_true rfl⟩,hxr⟩;obtain ⟨cf,hcf,hxc⟩:=du6.mp (o.perm.mem_iff.mpr xf);obtain ⟨c,hc,rfl⟩:=dt0.mp hcf
     have rows:∀r∈c,r.length=r0.length:=fun r hr=>Y5 (o.rg c hc r hr)
     obtain ⟨kk,e1,e2,js⟩:=ax7 k1 m1 (o.right c hc) rows;have xJ:=(js.perm k1 e2).mem_iff.mpr hxc;rw[<-al8 (C0 r0.length m c)] at xJ;obtain ⟨e,he,ex⟩:=dt0.mp xJ;have hef:e∈ess.flatten:=du6.mpr ⟨es,hes,by rw[o.eq];exact dx7.mpr ⟨c,hc,he⟩⟩;have a:=put e hef;have b:=ai2 (p:=t) (x:=(i:Int)) ⟨hx.1,by rw[<-pt];exact hx.2⟩;have ok:=ok e hef;rw[ex] at a ok;rw[<-ok,<-b] at a;unfold A1 at a;rw[dx5] at a;exact a
   · rw[dt5 (by rw[al9];omega),dt5 (by omega)]
theorem ap9:∀{ts:List (List Int)},(∀t∈ts,ts.countP (fun u=>decide (u=t))=1)->ts.Nodup
 |[],_=>dz9
 |x::xs,h=>by
  have h0:=h x ds5;rw[ed0,if_pos (decide_eq_true rfl)] at h0
  have nx:x∉xs:=fun z=>by
    have:xs.countP (fun u=>decide (u=x))=0:=by omega
    exact ea7.mp this x z (decide_eq_true rfl)
  refine dw4.mpr ⟨nx,ap9 fun t ht=> ?_⟩;have h1:=h t (ds6 _ ht);rw[ed0,if_neg (fun e=>nx (by rw[of_decide_eq_true e];exact ht))] at h1;exact h1
theorem cu8 {p:List Int}(m:Nat)(tp:o6 p)(lp:p.length<=40):∃ks:List Nat,ks.Nodup/\(∀k∈ks,∃r∈j9 p p.length,r.length=k)/\(∀r∈j9 p p.length,r.length∈ks)/\(M9 p (ks.map (Y4 (j9 p p.length) m))).length=R4 p m:=by
 have up:=J4 tp
 have ks:∃ks:List Nat,ks.Nodup/\(∀k∈ks,∃r∈j9 p p.length,r.length=k)/\(∀r∈j9 p p.length,r.length∈ks):=by
   refine ⟨(dv4 (p.length+1)).filter fun k=>(j9 p p.length).any fun r=>decide (r.length=k),List.Nodup.sublist em1 eb2,fun k hk=> ?_,fun r hr=> ?_⟩
   · obtain ⟨r,hr,e⟩:=ei2.mp (dx8.mp hk).2;exact ⟨r,hr,of_decide_eq_true e⟩
   · exact dx8.mpr ⟨dv0.mpr (by have:=(rsb tp up r hr).2;omega),ei2.mpr ⟨r,hr,decide_eq_true rfl⟩⟩
 obtain ⟨ks,nk,h1,h2⟩:=ks;refine ⟨ks,nk,h1,h2,?_⟩
 have len:=af9 p (Y4 (j9 p p.length) m) (fun l=>p0 l m (l7 (j9 p p.length) l)) ks.length ks (ds4 _) fun k hk=>by
   refine cb6 ?_;obtain ⟨r,hr,e⟩:=h1 k hk;have k1:=(rsb tp up r hr).1;have fl:=X9 tp up
   have e1:=Q0 (l:=k) (rs:=w9 (j9 p p.length) k) fun r hr=>(E4 hr).2
   have e2:=(N6 (j9 p p.length) k).length_le;exact dt6 (dw6 _ (show 0 < k by omega)) (by rw[<-e1];omega)
 rw[ap3 tp up nk h1 h2 fun u hu=>by rw[hu];rfl] at len;exact len
theorem dc9 {p:List Int}{m:Nat}(tp:o6 p)(lp:p.length<=40)(m1:1<=m):0 < R4 p m↔∃t,o6 t/\B7 t (m:Int) p:=by
 obtain ⟨ks,nk,h1,h2,len⟩:=cu8 m tp lp;constructor
 · intro h;rw[<-len] at h;obtain ⟨t,ht⟩:=List.exists_mem_of_length_pos h;exact ⟨t,bk6 tp lp m1 nk h1 h2 ht⟩
 · rintro ⟨t,tt,pw⟩;have one:=bv3 tp lp tt pw m1 nk h1 h2;rw[<-len];have:=eh4 (p:=fun u=>decide (u=t)) (l:=M9 p (ks.map (Y4 (j9 p p.length) m)));omega
theorem am1.once {p t:List Int}{m:Nat}{ts:List (List Int)}(h:am1 p m ts)(tp:o6 p)(lp:p.length<=40)(m1:1<=m)(tt:o6 t)(pw:B7 t (m:Int) p):ts.countP (fun u=>decide (u=t))=1:=by
 rcases h.src with z|⟨ks,nk,h1,h2,pr⟩
 · have:=(dc9 tp lp m1).mpr ⟨t,tt,pw⟩;omega
 · rw[pr.countP_eq];exact bv3 tp lp tt pw m1 nk h1 h2
theorem am1.mem {p t:List Int}{m:Nat}{ts:List (List Int)}(h:am1 p m ts)(tp:o6 p)(lp:p.length<=40)(m1:1<=m):t∈ts↔o6 t/\B7 t (m:Int) p:=by
 refine ⟨h.root tp lp m1 t,fun ⟨tt,pw⟩=> ?_⟩;have:=h.once tp lp m1 tt pw;obtain ⟨u,hu,e⟩:=el9.mp (show 0 < ts.countP (fun u=>decide (u=t)) by omega);rw[<-of_decide_eq_true e];exact hu
theorem am1.nd {p:List Int}{m:Nat}{ts:List (List Int)}(h:am1 p m ts)(tp:o6 p)(lp:p.length<=40)(m1:1<=m):ts.Nodup:=
 ap9 fun t ht=>have:=h.root tp lp m1 t ht;h.once tp lp m1 this.1 this.2
end
end My
namespace My
open PySem L2 Mth
section
variable {P:Program} {w:World} {K:PySem.W.Frag} {mg:Str->Option Value} {base:Heap}
def C2 (k:List Int)(m n:Nat):Nat:=j8 (fun l=>p0 l m (B8 k l)) ((dv4 n).map (· +1))
def kl:List (List (List (Nat×Nat)×Nat)):=[[([],1)],
 [([(1,1)],1)],
 [([(1,2)],1),([(2,1)],1)],
 [([(1,3)],1),([(1,1),(2,1)],3),([(3,1)],2)],
 [([(1,4)],1),([(1,2),(2,1)],6),([(2,2)],3),([(1,1),(3,1)],8),([(4,1)],6)],
 [([(1,5)],1),([(1,3),(2,1)],10),([(1,1),(2,2)],15),([(1,2),(3,1)],20),([(2,1),(3,1)],20),([(1,1),(4,1)],30),([(5,1)],24)],
 [([(1,6)],1),([(1,4),(2,1)],15),([(1,2),(2,2)],45),([(2,3)],15),([(1,3),(3,1)],40),([(1,1),(2,1),(3,1)],120),([(3,2)],40),([(1,2),(4,1)],90),([(2,1),(4,1)],90),([(1,1),(5,1)],144),([(6,1)],120)],
 [([(1,7)],1),([(1,5),(2,1)],21),([(1,3),(2,2)],105),([(1,1),(2,3)],105),([(1,4),(3,1)],70),([(1,2),(2,1),(3,1)],420),([(2,2),(3,1)],210),([(1,1),(3,2)],280),([(1,3),(4,1)],210),([(1,1),(2,1),(4,1)],630),([(3,1),(4,1)],420),([(1,2),(5,1)],504),([(2,1),(5,1)],504),([(1,1),(6,1)],840),([(7,1)],720)],
 [([(1,8)],1),([(1,6),(2,1)],28),([(1,4),(2,2)],210),([(1,2),(2,3)],420),([(2,4)],105),([(1,5),(3,1)],112),([(1,3),(2,1),(3,1)],1120),([(1,1),(2,2),(3,1)],1680),([(1,2),(3,2)],1120),([(2,1),(3,2)],1120),([(1,4),(4,1)],420),([(1,2),(2,1),(4,1)],2520),([(2,2),(4,1)],1260),([(1,1),(3,1),(4,1)],3360),([(4,2)],1260),([(1,3),(5,1)],1344),([(1,1),(2,1),(5,1)],4032),([(3,1),(5,1)],2688),([(1,2),(6,1)],3360),([(2,1),(6,1)],3360),([(1,1),(7,1)],5760),([(8,1)],5040)],
 [([(1,9)],1),([(1,7),(2,1)],36),([(1,5),(2,2)],378),([(1,3),(2,3)],1260),([(1,1),(2,4)],945),([(1,6),(3,1)],168),([(1,4),(2,1),(3,1)],2520),([(1,2),(2,2),(3,1)],7560),([(2,3),(3,1)],2520),([(1,3),(3,2)],3360),([(1,1),(2,1),(3,2)],10080),([(3,3)],2240),([(1,5),(4,1)],756),([(1,3),(2,1),(4,1)],7560),([(1,1),(2,2),(4,1)],11340),([(1,2),(3,1),(4,1)],15120),([(2,1),(3,1),(4,1)],15120),([(1,1),(4,2)],11340),([(1,4),(5,1)],3024),([(1,2),(2,1),(5,1)],18144),([(2,2),(5,1)],9072),([(1,1),(3,1),(5,1)],24192),([(4,1),(5,1)],18144),([(1,3),(6,1)],10080),([(1,1),(2,1),(6,1)],30240),([(3,1),(6,1)],20160),([(1,2),(7,1)],25920),([(2,1),(7,1)],25920),([(1,1),(8,1)],45360),([(9,1)],40320)],
 [([(1,10)],1),([(1,8),(2,1)],45),([(1,6),(2,2)],630),([(1,4),(2,3)],3150),([(1,2),(2,4)],4725),([(2,5)],945),([(1,7),(3,1)],240),([(1,5),(2,1),(3,1)],5040),([(1,3),(2,2),(3,1)],25200),([(1,1),(2,3),(3,1)],25200),([(1,4),(3,2)],8400),([(1,2),(2,1),(3,2)],50400),([(2,2),(3,2)],25200),([(1,1),(3,3)],22400),([(1,6),(4,1)],1260),([(1,4),(2,1),(4,1)],18900),([(1,2),(2,2),(4,1)],56700),([(2,3),(4,1)],18900),([(1,3),(3,1),(4,1)],50400),([(1,1),(2,1),(3,1),(4,1)],151200),([(3,2),(4,1)],50400),([(1,2),(4,2)],56700),([(2,1),(4,2)],56700),([(1,5),(5,1)],6048),([(1,3),(2,1),(5,1)],60480),([(1,1),(2,2),(5,1)],90720),([(1,2),(3,1),(5,1)],120960),([(2,1),(3,1),(5,1)],120960),([(1,1),(4,1),(5,1)],181440),([(5,2)],72576),([(1,4),(6,1)],25200),([(1,2),(2,1),(6,1)],151200),([(2,2),(6,1)],75600),([(1,1),(3,1),(6,1)],201600),([(4,1),(6,1)],151200),([(1,3),(7,1)],86400),([(1,1),(2,1),(7,1)],259200),([(3,1),(7,1)],172800),([(1,2),(8,1)],226800),([(2,1),(8,1)],226800),([(1,1),(9,1)],403200),([(10,1)],362880)],
 [([(1,11)],1),([(1,9),(2,1)],55),([(1,7),(2,2)],990),([(1,5),(2,3)],6930),([(1,3),(2,4)],17325),([(1,1),(2,5)],10395),([(1,8),(3,1)],330),([(1,6),(2,1),(3,1)],9240),([(1,4),(2,2),(3,1)],69300),([(1,2),(2,3),(3,1)],138600),([(2,4),(3,1)],34650),([(1,5),(3,2)],18480),([(1,3),(2,1),(3,2)],184800),([(1,1),(2,2),(3,2)],277200),([(1,2),(3,3)],123200),([(2,1),(3,3)],123200),([(1,7),(4,1)],1980),([(1,5),(2,1),(4,1)],41580),([(1,3),(2,2),(4,1)],207900),([(1,1),(2,3),(4,1)],207900),([(1,4),(3,1),(4,1)],138600),([(1,2),(2,1),(3,1),(4,1)],831600),([(2,2),(3,1),(4,1)],415800),([(1,1),(3,2),(4,1)],554400),([(1,3),(4,2)],207900),([(1,1),(2,1),(4,2)],623700),([(3,1),(4,2)],415800),([(1,6),(5,1)],11088),([(1,4),(2,1),(5,1)],166320),([(1,2),(2,2),(5,1)],498960),([(2,3),(5,1)],166320),([(1,3),(3,1),(5,1)],443520),([(1,1),(2,1),(3,1),(5,1)],1330560),([(3,2),(5,1)],443520),([(1,2),(4,1),(5,1)],997920),([(2,1),(4,1),(5,1)],997920),([(1,1),(5,2)],798336),([(1,5),(6,1)],55440),([(1,3),(2,1),(6,1)],554400),([(1,1),(2,2),(6,1)],831600),([(1,2),(3,1),(6,1)],1108800),([(2,1),(3,1),(6,1)],1108800),([(1,1),(4,1),(6,1)],1663200),([(5,1),(6,1)],1330560),([(1,4),(7,1)],237600),([(1,2),(2,1),(7,1)],1425600),([(2,2),(7,1)],712800),([(1,1),(3,1),(7,1)],1900800),([(4,1),(7,1)],1425600),([(1,3),(8,1)],831600),([(1,1),(2,1),(8,1)],2494800),([(3,1),(8,1)],1663200),([(1,2),(9,1)],2217600),([(2,1),(9,1)],2217600),([(1,1),(10,1)],3991680),([(11,1)],3628800)],
 [([(1,12)],1),([(1,10),(2,1)],66),([(1,8),(2,2)],1485),([(1,6),(2,3)],13860),([(1,4),(2,4)],51975),([(1,2),(2,5)],62370),([(2,6)],10395),([(1,9),(3,1)],440),([(1,7),(2,1),(3,1)],15840),([(1,5),(2,2),(3,1)],166320),([(1,3),(2,3),(3,1)],554400),([(1,1),(2,4),(3,1)],415800),([(1,6),(3,2)],36960),([(1,4),(2,1),(3,2)],554400),([(1,2),(2,2),(3,2)],1663200),([(2,3),(3,2)],554400),([(1,3),(3,3)],492800),([(1,1),(2,1),(3,3)],1478400),([(3,4)],246400),([(1,8),(4,1)],2970),([(1,6),(2,1),(4,1)],83160),([(1,4),(2,2),(4,1)],623700),([(1,2),(2,3),(4,1)],1247400),([(2,4),(4,1)],311850),([(1,5),(3,1),(4,1)],332640),([(1,3),(2,1),(3,1),(4,1)],3326400),([(1,1),(2,2),(3,1),(4,1)],4989600),([(1,2),(3,2),(4,1)],3326400),([(2,1),(3,2),(4,1)],3326400),([(1,4),(4,2)],623700),([(1,2),(2,1),(4,2)],3742200),([(2,2),(4,2)],1871100),([(1,1),(3,1),(4,2)],4989600),([(4,3)],1247400),([(1,7),(5,1)],19008),([(1,5),(2,1),(5,1)],399168),([(1,3),(2,2),(5,1)],1995840),([(1,1),(2,3),(5,1)],1995840),([(1,4),(3,1),(5,1)],1330560),([(1,2),(2,1),(3,1),(5,1)],7983360),([(2,2),(3,1),(5,1)],3991680),([(1,1),(3,2),(5,1)],5322240),([(1,3),(4,1),(5,1)],3991680),([(1,1),(2,1),(4,1),(5,1)],11975040),([(3,1),(4,1),(5,1)],7983360),([(1,2),(5,2)],4790016),([(2,1),(5,2)],4790016),([(1,6),(6,1)],110880),([(1,4),(2,1),(6,1)],1663200),([(1,2),(2,2),(6,1)],4989600),([(2,3),(6,1)],1663200),([(1,3),(3,1),(6,1)],4435200),([(1,1),(2,1),(3,1),(6,1)],13305600),([(3,2),(6,1)],4435200),([(1,2),(4,1),(6,1)],9979200),([(2,1),(4,1),(6,1)],9979200),([(1,1),(5,1),(6,1)],15966720),([(6,2)],6652800),([(1,5),(7,1)],570240),([(1,3),(2,1),(7,1)],5702400),([(1,1),(2,2),(7,1)],8553600),([(1,2),(3,1),(7,1)],11404800),([(2,1),(3,1),(7,1)],11404800),([(1,1),(4,1),(7,1)],17107200),([(5,1),(7,1)],13685760),([(1,4),(8,1)],2494800),([(1,2),(2,1),(8,1)],14968800),([(2,2),(8,1)],7484400),([(1,1),(3,1),(8,1)],19958400),([(4,1),(8,1)],14968800),([(1,3),(9,1)],8870400),([(1,1),(2,1),(9,1)],26611200),([(3,1),(9,1)],17740800),([(1,2),(10,1)],23950080),([(2,1),(10,1)],23950080),([(1,1),(11,1)],43545600),([(12,1)],39916800)]]
def bc7 (k:List Int):List (Nat×Nat):=(((dv4 12).map (· +1)).filter fun l=>decide (B8 k l≠0)).map fun l=>(l,B8 k l)
theorem dn4:∀n,n < 13->(n5 12 n n).map (fun k=>(bc7 k,C7 k))=kl.getD n []:=by decide+kernel
def hw (g:Nat):List (Nat×Nat)->Nat
 |[]=>1
 |p::ps=>p0 p.1 g p.2*hw g ps
def gl:List Nat:=[1,11,7,77,5,55,35,385,3,33,21,231,15,165,105,1155,9,99,63,693,45,495,315,3465,2,22,14,154,10,110,70,770,6,66,42,462,30,330,210,2310,18,198,126,1386,90,990,630,6930,4,44,28,308,20,220,140,1540,12,132,84,924,60,660,420,4620,36,396,252,2772,180,1980,1260,13860,8,88,56,616,40,440,280,3080,24,264,168,1848,120,1320,840,9240,72,792,504,5544,360,3960,2520,27720]
theorem dn5:G12=gl:=by decide+kernel
theorem dd0:∀g∈gl,∀n,n < 13->((kl.getD n []).map fun x=>hw g x.1*x.2).sum=E9 n:=by decide+kernel
theorem co7:∀n,n < 13->∀k∈n5 12 n n,∀l,l < 13->l*B8 k l<=n:=by decide+kernel
theorem dj0:∀n,n < 6->(n5 12 n n).Pairwise (fun a b=>((dv4 13).any fun l=>decide (1<=l)&&decide (B8 a l≠B8 b l))=true):=by decide+kernel
theorem dq6:∀n,n < 6->E9 n<=120:=by decide+kernel
theorem cc1:∀n,0 < E9 n
 |0=>eo2
 |n+1=>ea3 (cc1 n) (ej7 n)
theorem co8 {l m n:Nat}(l1:1<=l)(h:l*n<=12):o5 l (du0 m 27720) n=o5 l m n:=by
 unfold o5
 refine ej8 fun d hd=> ?_
 obtain ⟨i,hi,rfl⟩:=dt0.mp hd;have:=dv0.mp hi;have b:(i+1)*l<=12:=dt6 (dz5 l (show i+1<=n by omega)) (by rw[dy8];exact h);have p:1<=(i+1)*l:=ea3 (ej7 i) l1;have dv:du0 ((i+1)*l) m∣27720:=Nat.dvd_trans (ef9 _ _) (eb5 (bb7 _ (by omega) p));rw[<-Nat.gcd_assoc,eo0 dv]
theorem am3 {f g:Nat->Nat}:∀{xs:List Nat},(∀x∈xs,f x=g x)->j8 f xs=j8 g xs
 |[],_=>rfl
 |x::xs,h=>by
  show f x*j8 f xs=g x*j8 g xs;rw[h x ds5,am3 fun y hy=>h y (ds6 _ hy)]
theorem cc2 {k:List Int}{m:Nat}:∀ks:List Nat,hw m (ks.map fun l=>(l,B8 k l))=j8 (fun l=>p0 l m (B8 k l)) ks
 |[]=>rfl
 |l::ks=>by
  show p0 l m (B8 k l)*hw m (ks.map fun l=>(l,B8 k l))=p0 l m (B8 k l)*j8 _ ks;rw[cc2 ks]
theorem bc8 (n:Nat):((dv4 n).map (· +1)).Nodup:=List.Pairwise.map (fun x:Nat=>x+1) (fun a b h=>by omega) (eb2 (n:=n))
theorem dd1 {k:List Int}{n m:Nat}(hn:n<=12)(hk:k∈n5 12 n n):C2 k m n=hw m (bc7 k):=by
 unfold C2 bc7;rw[cc2];refine (af0 (List.Nodup.sublist em1 (bc8 12)) (bc8 n) (fun l hl=> ?_) fun u hu hn'=> ?_).symm
 · obtain ⟨h1,h2⟩:=dx8.mp hl;obtain ⟨i,hi,rfl⟩:=dt0.mp h1;have:=dv0.mp hi;have c:=co7 n (by omega) k hk (i+1) (by omega);have c0:B8 k (i+1)≠0:=of_decide_eq_true h2;have:(i+1)*1<=(i+1)*B8 k (i+1):=em0 _ (Nat.one_le_iff_ne_zero.mpr c0);exact dt0.mpr ⟨i,dv0.mpr (by omega),rfl⟩
 · obtain ⟨i,hi,rfl⟩:=dt0.mp hu;have:=dv0.mp hi
   have z:B8 k (i+1)=0:=by
     by_cases z:B8 k (i+1)=0
     · exact z
     · exact absurd (show i+1∈((dv4 12).map (· +1)).filter fun l=>decide (B8 k l≠0) from dx8.mpr ⟨dt0.mpr ⟨i,dv0.mpr (by omega),rfl⟩,decide_eq_true z⟩) hn'
   show p0 (i+1) m (B8 k (i+1))=1;rw[z];rfl
theorem dj1:∀g∈G12,∀n,n < 13->((n5 12 n n).map fun k=>C2 k g n*C7 k).sum=E9 n:=fun g hg n hn=>by
 rw[dn5] at hg;rw[<-dd0 g hg n hn,<-dn4 n hn,dw5]
 congr 1
 refine dx6 fun k hk=> ?_
 show C2 k g n*C7 k=hw g (bc7 k)*C7 k;rw[dd1 (by omega) hk]
theorem dj2 {k:List Int}{n m:Nat}(hn:n<=12)(hk:k∈n5 12 n n):C2 k (du0 m 27720) n=C2 k m n:=by
 unfold C2
 refine am3 fun l hl=> ?_
 obtain ⟨i,hi,rfl⟩:=dt0.mp hl;have:=dv0.mp hi;have c:=co7 n (by omega) k hk (i+1) (by omega);unfold p0;rw[co8 (ej7 i) (dt6 c hn)]
theorem cc3 {n:Nat}(m:Nat)(hn:n<=12):((n5 12 n n).map fun k=>C2 k m n*C7 k).sum=E9 n:=by
 rw[<-dj1 _ (cx7 m) n (by omega)]
 congr 1
 refine dx6 fun k hk=> ?_
 rw[dj2 hn hk]
theorem dd2 {l m n d0:Nat}(m1:1<=m)(h:M7 l m d0):bu3 (o5 l m n) n d0:=by
 have p:=h.pos m1;refine ⟨p,fun d hd=>(D0 hd).1,fun d hd=> ?_,fun hn=> ?_⟩
 · have r:=M2 hd;obtain ⟨a,b⟩:=(af2 r.1).mp r.2;exact h.least d a b
 · unfold o5;refine dx8.mpr ⟨dt0.mpr ⟨d0 - 1,dv0.mpr (by omega),by omega⟩,decide_eq_true ((af2 p).mpr ⟨h.parts,h.rest⟩)⟩
theorem bk8 {l m c d:Nat}(l1:1<=l)(m1:1<=m)(hd:M7 l m d):0 < p0 l m c↔d∣c:=by
 have b:=dd2 (n:=c) m1 hd;constructor
 · intro h;exact bu5 b c c (ds4 _) (Nat.pos_iff_ne_zero.mp h)
 · rintro ⟨q,rfl⟩;exact bu4 b l1 q (ds4 _)
theorem aq0 {f:Nat->Nat}:∀{xs:List Nat},0 < j8 f xs↔∀x∈xs,0 < f x
 |[]=>⟨fun _ x hx=>(by cases hx),fun _=>eo2⟩
 |x::xs=>by
  show 0 < f x*j8 f xs↔_;constructor
  · intro h y hy
    have h1:0 < f x:=em5 fun z=>by rw[z,ed7] at h;exact absurd h (ea8 _)
    have h2:0 < j8 f xs:=em5 fun z=>by rw[z,ee9] at h;exact absurd h (ea8 _)
    rcases dt7.mp hy with rfl|hy
    · exact h1
    · exact aq0.mp h2 y hy
  · exact fun h=>ea3 (h x ds5) (aq0.mpr fun y hy=>h y (ds6 _ hy))
theorem dn6 {k:List Int}{n m:Nat}(hn:n<=12)(hk:k∈n5 12 n n)(m1:1<=m):0 < C2 k m n↔Z8 k m=true:=by
 have hb:Z8 k m=true↔cf7 (B8 k) m:=by
   unfold Z8;exact @decide_eq_true_iff _ (Classical.propDecidable _)
 rw[hb];unfold C2;rw[aq0];obtain ⟨a,_,s,_⟩:=ab7 n (by omega) k hk;constructor
 · intro h l l1 hl d hd;obtain ⟨x,hx,rfl⟩:=ct9 hl;have:=V5 a x hx;exact (bk8 l1 m1 hd).mp (h _ (dt0.mpr ⟨x.toNat - 1,dv0.mpr (by omega),by omega⟩))
 · intro h l hl;obtain ⟨i,hi,rfl⟩:=dt0.mp hl;obtain ⟨d,hd⟩:=cb5 (l:=i+1) m1;refine (bk8 (ej7 i) m1 hd).mpr ?_
   by_cases c:B8 k (i+1)=0
   · rw[c];exact el6 _
   · exact h _ (ej7 i) (Nat.one_le_iff_ne_zero.mpr c) d hd
theorem bv4 {f:List Int->Nat}{p:List Int->Bool}{c:List Int->Prop}[DecidablePred c]:∀{ks:List (List Int)},(∀k∈ks,(c k↔p k=true))->(ks.map fun k=>f k*(if c k then 1 else 0)).sum=((ks.filter p).map f).sum
 |[],_=>rfl
 |k::ks,h=>by
  have i:=bv4 (f:=f) (p:=p) (c:=c) (ks:=ks) fun x hx=>h x (ds6 k hx)
  rw[du9,dz4,i,List.filter_cons]
  by_cases z:p k=true
  · rw[if_pos z,if_pos ((h k ds5).mpr z),du9,dz4,ed6]
  · rw[if_neg z,if_neg fun y=>z ((h k ds5).mp y),ee9,ee8]
theorem dj3 {n m:Nat}(hn:n<=12)(m1:1<=m):((n5 12 n n).map fun k=>C7 k*(if 0 < C2 k m n then 1 else 0)).sum=cx6 n m:=
 bv4 fun k hk=>dn6 hn hk m1
theorem au7 {t:List Int}{rs:List (List Int)}(al:X3 t rs)(fl:rs.flatten.Perm (n6 0 t.length)):o6 t:=by
 have e:(t.map some).Perm ((rs.map fun r=>r.drop 1++r.take 1).flatten.map some):=by
   rw[<-ac7]
   have e0:rs.flatten.map (A1 t)=(rs.map fun r=>r.drop 1++r.take 1).flatten.map some:=by
     rw[ek6,ek6,dw5]
     congr 1
     exact dx6 fun r hr=>bi8 (al r hr)
   rw[<-e0];exact fl.symm.map (A1 t)
 have e2:t.Perm (rs.map fun r=>r.drop 1++r.take 1).flatten:=by
   have:=e.filterMap id
   have g:∀l:List Int,(l.map some).filterMap id=l:=fun l=>by
     induction l with
     |nil=>rfl
     |cons x l ih=>exact (List.filterMap_cons_some (f:=id) (a:=some x) (b:=x) rfl).trans (congrArg (List.cons x) ih)
   rw[g,g] at this;exact this
 have e3:∀rs:List (List Int),(rs.map fun r=>r.drop 1++r.take 1).flatten.Perm rs.flatten:=fun rs=>by
   induction rs with
   |nil=>exact List.Perm.refl _
   |cons r rs ih=>
    rw[du9,dt9,dt9];refine List.Perm.append ?_ ih;have:=ea1 (l₁:=r.drop 1) (l₂:=r.take 1)
    rwa [dx2] at this
 have p:=(e2.trans (e3 rs)).trans fl;exact ⟨p.nodup_iff.mpr (K6 _),fun x hx=>(A4.mp (p.mem_iff.mp hx)).1,fun x hx=>(A4.mp (p.mem_iff.mp hx)).2⟩
theorem dj4 {t ks:List Int}{rs:List (List Int)}(al:X3 t rs)(fl:rs.flatten.Perm (n6 0 t.length))(lens:rs.map (fun r=>(r.length:Int))=ks){l:Nat}(l1:1<=l):l7 (j9 t t.length) l=B8 ks l:=by
 have tt:=au7 al fl;have nd:rs.flatten.Nodup:=fl.nodup_iff.mpr (K6 _);have a:=U6 (l:=l) (bi9 al nd);rw[fl.countP_eq] at a;have b:=af1 tt (J4 tt) l
 have c:((((dv4 t.length).map fun (i:Nat)=>(G0 t (i:Int):Int))).countP fun i=>decide (i=(l:Int)))=(n6 0 t.length).countP fun x=>decide (G0 t x=l):=by
   rw[dz0];unfold L2.n6;rw[dz0]
   refine dz3 fun i hi=> ?_
   simp
   constructor<;>intro h<;>omega
 rw[c,a] at b;have e:l7 rs l=l7 (j9 t t.length) l:=eb7 (by omega) b;unfold B8;rw[<-e,<-lens,dz0];unfold l7
 refine dz3 fun r _=> ?_
 simp
theorem bv5 {t ks:List Int}{n m:Nat}(e:∀l,1<=l->l7 (j9 t t.length) l=B8 ks l)(hn:t.length=n):R4 t m=C2 ks m n:=by
 subst hn;unfold R4 C2
 refine am3 fun l hl=> ?_
 obtain ⟨i,hi,rfl⟩:=dt0.mp hl;rw[e _ (ej7 i)]
theorem dj5 {n m:Nat}:R4 (n6 0 n) m=p0 1 m n:=by
 have len:(n6 0 n).length=n:=t8 ..
 have al:X3 (n6 0 n) ((n6 0 n).map fun x=>[x]):=fun r hr j hj=>by
   obtain ⟨x,hx,rfl⟩:=dt0.mp hr;have b:=A4.mp hx
   have:j=0:=by simpa using hj
   subst this;obtain ⟨i,rfl⟩:=dz2 b.1
   have il:i < n:=by omega
   rw[eh3,Nat.mod_one];show A1 (n6 0 n) (i:Int)=some (i:Int);unfold A1 L2.n6;rw[ds9,dw9 (show ((i:Nat):Int).toNat < n by omega)];show some ((0:Int)+(((i:Nat):Int).toNat:Int))=_
   congr 1
   omega
 have fl:((n6 0 n).map fun x=>[x]).flatten=n6 0 (n6 0 n).length:=by
   rw[len];generalize n6 0 n=l
   induction l with
   |nil=>rfl
   |cons x l ih=>rw[du9,dt9,ih];rfl
 have lens:((n6 0 n).map fun x=>[x]).map (fun r=>(r.length:Int))=dw8 n (1:Int):=by
   rw[dw5]
   refine List.ext_getElem (by rw[ds1,ee3,len]) fun i h1 h2=> ?_
   simp
 rw[bv5 (fun l l1=>dj4 al (by rw[fl]) lens l1) len]
 have c:∀l,B8 (dw8 n (1:Int)) l=if l=1 then n else 0:=fun l=>by
   unfold B8;rw[List.countP_replicate]
   by_cases z:l=1
   · subst z;rfl
   · rw[if_neg z,if_neg (by simpa using fun h=>z h.symm)]
 unfold C2;rw[am3 (g:=fun l=>p0 l m (if l=1 then n else 0)) fun l _=>by rw[c]]
 cases n with
 |zero=>rfl
 |succ n=>
  rw[ek1,du9];show p0 1 m (n+1)*j8 _ _=_;rw[U5 fun u hu=> ?_,ed6];obtain ⟨i,hi,rfl⟩:=dt0.mp hu;obtain ⟨j,_,rfl⟩:=dt0.mp hi;rw[if_neg (by show ¬j+1+1=1;omega)];rfl
theorem bg6 {α:Type}{f:α->Nat}{x:α}:∀{xs:List α},x∈xs->f x<=(xs.map f).sum
 |y::xs,h=>by
  rw[du9,dz4]
  rcases dt7.mp h with rfl|h
  · omega
  · have:=bg6 (f:=f) h;omega
theorem bv6 {α:Type}{f g:α->Nat}:∀{xs:List α},(∀x∈xs,f x<=g x)->(xs.map f).sum<=(xs.map g).sum
 |[],_=>ds4 _
 |y::xs,h=>by
  rw[du9,dz4,du9,dz4];exact Nat.add_le_add (h y ds5) (bv6 fun x hx=>h x (ds6 _ hx))
theorem cu9 {α:Type}{f:α->Nat}(xs:List α)(j:Nat):((xs.take j).map f).sum<=(xs.map f).sum:=by
 have:(xs.map f).sum=((xs.take j).map f).sum+((xs.drop j).map f).sum:=by rw[<-ec0,<-dt1,dx2]
 omega
theorem cv0 {n:Nat}(hn:n<=12){k:List Int}(hk:k∈n5 12 n n):1<=C7 k:=by
 obtain ⟨_,_,_,e⟩:=ab7 n (by omega) k hk;have:=cc1 n
 rcases eb1 (C7 k) with z|z
 · rw[z,ed7] at e;omega
 · exact z
theorem bg7 {n:Nat}(m:Nat)(hn:n<=12):((n5 12 n n).map fun k=>C2 k m n).sum<=E9 n:=by
 rw[<-cc3 m hn]
 exact bv6 fun k hk=>dw6 _ (cv0 hn hk)
theorem cc4 {n:Nat}(m:Nat)(hn:n<=12){k:List Int}(hk:k∈n5 12 n n):C2 k m n<=E9 n:=dt6 (bg6 (f:=fun k=>C2 k m n) hk) (bg7 m hn)
theorem cv5 {n:Nat}(hn:n<=5){a b:List Int}{i j:Nat}(hi:(n5 12 n n)[i]? =some a)(hj:(n5 12 n n)[j]? =some b)(h:i < j){t:List Int}(ea:∀l,1<=l->l7 (j9 t t.length) l=B8 a l)(eb:∀l,1<=l->l7 (j9 t t.length) l=B8 b l):False:=by
 obtain ⟨li,rfl⟩:=ds3.mp hi;obtain ⟨lj,rfl⟩:=ds3.mp hj;have:=dv6.mp (dj0 n (by omega)) i j li lj h;obtain ⟨l,_,e⟩:=ei2.mp this;rw[ed8] at e;have l1:=of_decide_eq_true e.1;exact of_decide_eq_true e.2 ((ea l l1).symm.trans (eb l l1))
end
end My
namespace My
open PySem L2 Mth
section
variable {P:Program} {w:World} {K:PySem.W.Frag} {mg:Str->Option Value} {base:Heap}
def am4:Sp:=fun vs H Q _=>∃(g ka:Addr) (ks:List Int) (c:Nat),vs=[.ref g,.ref ka]/\x4 H g c/\c<=900000/\H ka=some (.lst (ks.map V.int))/\ka≠g/\(∀x∈ks,1<=x)/\ks.sum<=12/\∀(o:Addr) (t:List Int) (H':Hp),H o=none->R8 H' o t->t.length=ks.sum.toNat->(∀l,1<=l->l7 (j9 t t.length) l=B8 ks l)->x4 H' g (c+12)->i8 g H H'->Q (.ref o) H'
theorem bk9:∀{l:List Int} {k:Nat},(l.map V.int).eraseIdx k=(l.eraseIdx k).map V.int
 |[],k=>by simp
 |a::l,0=>by simp
 |a::l,k+1=>by simp [bk9 (l:=l) (k:=k)]
theorem R0:l8 ["pool","kind","left","rounds","length"] ["pool","kind"] (j5 Z7):=by rfl'
theorem aa0:(["k","left","pool"]:List Str).Nodup:=by decide+kernel
theorem bg8 {f:Addr}{fd:FuncData}(F:x6 K "_law_turn_of" "_law_turn_of" Z7 f fd)(B:Bl mg)(zzy:j7 P w K mg base "_law_take" 1 ["pool","many"] ao6)(zxx:j7 P w K mg base "from_rounds" 3 ["rounds"] ao8):o7 P w K mg base x5 4 f fd ["pool","kind"] am4:=by
 refine F.ok R0 (fun vs H Q E h=> ?_) (fun cdv A outer s H vs Q E hr h=> ?_)
 · obtain ⟨g,ka,ks,c,rfl,hg,hc,hk,nkg,kpos,ksum,q⟩:=h;rfl
 · obtain ⟨g,ka,ks,c,rfl,hg,hc,hk,nkg,kpos,ksum,q⟩:=h;have zy:l6 1 _:=hr.mono (by decide);have zo:l6 3 _:=hr.mono (by decide);refine ⟨_,@c7 _ _ _ _ _ (@i6 _ _ (2) _ _ _ _ R0.nd rfl (Or.inr rfl) (@ak0 _ _ _ _ _ _ _ rfl B.list B.range (@c5 _ _ _ _ _ (@an8 _ _ _ _ _ rfl B.sum (@c5 _ _ _ _ _ (pv 1) (@c6 _) (by rfl)) (by rfl) (by rfl)) (@c6 _) (by rfl)) (by rfl) (by rfl) (by rfl) (by rfl)) (by rfl) (by trivial)) (@c7 _ _ _ _ _ (@i6 _ _ (3) _ _ _ _ R0.nd rfl (Or.inl rfl) (@p8 _ _ _ _ (@c6 _)) (by rfl) (by trivial)) (@c7 _ _ _ _ _ (@l9 _ _ _ _ _ _ _ _ PassesOwn.never rfl (@t5 _ _ _ _ (pv 1)) (@i9 _ _ (4) _ R0.nd rfl (Or.inl rfl) (by trivial)) (@e7 _ _ _ (@p7 _ _ _ _ (@x8 _ _ _ _ _ _ _ (pv 3) (@c5 _ _ _ _ _ (@bd4 _ _ _ _ _ _ _ _ _ _ _ (["k","left","pool"]) (1) ([2,0]) rfl .of (@X7 _ _ _ _ _ _ (by rfl) B.range (@c5 _ _ _ _ _ (pv 4) (@c6 _) (by rfl)) (by rfl)) (fun _ _ _ _ _=>@i9 _ _ (0) _ aa0 rfl (Or.inl rfl) (by trivial)) (fun _ _ _ _ _=>(@cq4 _)) (fun _ _ _ _ _=>(@cl7 _ K _ _ _ _ _ _ (pv 1) (@c5 _ _ _ _ _ (@i4 _ _ _ _ _ _ _ _ _ _ zzy zy (@c5 _ _ _ _ _ (pv 2) (@c5 _ _ _ _ _ (@cr0 _ _ _ _ _ K (by exact B.len) (@c5 _ _ _ _ _ (pv 1) (@c6 _) (by rfl)) (by rfl) (by rfl) (by rfl)) (@c6 _) (by rfl)) (by rfl)) (by rfl) (by decide) (by rfl) (by rfl)) (@c6 _) (by rfl)) (by rfl) (by rfl) (by rfl) (by rfl) (by rfl) (by rfl))) (by intro _;rfl)) (@c6 _) (by rfl)) (by rfl) (by rfl) (by rfl) (by rfl) (by rfl)) (by rfl))) (by intro _;rfl)) (@e7 _ _ _ (@l5 _ _ _ _ (@i4 _ _ _ _ _ _ _ _ _ _ zxx zo (@c5 _ _ _ _ _ (pv 3) (@c6 _) (by rfl)) (by rfl) (by decide) (by rfl) (by rfl)))))),?_⟩;have s0:=S0 kpos;obtain ⟨s,es⟩:=dz2 (show 0<=ks.sum by omega);refine ⟨_,rfl,ka,ks,rfl,i5.of hk,_,rfl,fun r hr'=> ?_⟩;rw[es] at ksum ⊢;have s4:e8 H (c9 H r (.rng 0 (s:Int))):=e8.upd_new hr';have h4r:(c9 H r (.rng 0 (s:Int))) r=some (.rng 0 (s:Int)):=c8;generalize (c9 H r (.rng 0 (s:Int)))=H4 at s4 h4r ⊢;refine ⟨r,0,(s:Int),rfl,h4r,⟨by decide,by decide,by omega,by omega⟩,by omega,fun lf hlf=> ?_⟩;rw[show ((s:Int) - 0).toNat=s by omega];have s5:e8 H4 (c9 H4 lf (.lst ((n6 0 s).map V.int))):=e8.upd_new hlf;have h5f:(c9 H4 lf (.lst ((n6 0 s).map V.int))) lf=some (.lst ((n6 0 s).map V.int)):=c8;generalize (c9 H4 lf (.lst ((n6 0 s).map V.int)))=H5 at s5 h5f ⊢;refine ⟨du3 _,fun L hL=> ?_⟩;have s6:e8 H5 (c9 H5 L (.lst [])):=e8.upd_new hL;have h6L:(c9 H5 L (.lst [])) L=some (.lst (([]:List Addr).map V.ref)):=c8;generalize (c9 H5 L (.lst []))=H6 at s6 h6L ⊢;have s06:e8 H H6:=s4.trans (s5.trans s6);have hlf0:H lf=none:=s4.free hlf;have hL0:H L=none:=s4.free (s5.free hL);have nfg:lf≠g:=E3 hg hlf0;have nLg:L≠g:=E3 hg hL0
   have nLf:L≠lf:=fun z=>by rw[z,h5f] at hL;cases hL
   have nkL:ka≠L:=g6 hk hL0;have nkf:ka≠lf:=g6 hk hlf0
   refine ⟨_,rfl,ka,rfl,⟨_,i5.of (s06 _ _ hk)⟩,w4 (K:=K) (a:=ka) (xs:=ks.map V.int) (fun i σ Hx=>∃(as:List Addr) (rs:List (List Int)) (ms:List Int) (v4:Option V),σ=[some (.ref g),some (.ref ka),some (.ref lf),some (.ref L),v4]/\Hx L=some (.lst (as.map V.ref))/\m9 Hx as rs/\rs.map (fun r=>(r.length:Int))=ks.take i/\Hx lf=some (.lst (ms.map V.int))/\(rs.flatten++ms).Perm (n6 0 s)/\x4 Hx g (c+(ks.take i).sum.toNat)/\i8 g H Hx/\∀b∈as,b≠L/\b≠lf/\b≠g)
     ⟨[],[],_,none,rfl,h6L,⟨rfl,fun j b r h=>by cases h⟩,rfl,s6 _ _ h5f,List.Perm.refl _,x9 hg s06,s06.but g,fun b hb=>by cases hb⟩ (fun i σ Hx _ zz=>by obtain ⟨_,_,_,_,_,_,_,_,_,_,_,kb,_⟩:=zz;exact i5.of (kb _ _ hk nkg)) ?_ ?_⟩
   · rintro i x σ H8 hi ⟨as,rs,ms,v4,rfl,h8L,rows,lens,h8f,pm,P8,kb8,nas⟩;obtain ⟨len,hlen,rfl⟩:=C9 hi;have len1:1<=len:=kpos len (dt2 hlen)
     have t0:=S0 (l:=ks.take i) fun y hy=>kpos y (dy5 hy)
     have et:=i7 hlen;have t1:=au3 kpos (i+1);rw[et,ec0,ec1,es] at t1;obtain ⟨ln,rfl⟩:=dz2 (show 0<=len by omega)
     have hln:((ln:Nat):Int).toNat=ln:=by omega
     have il:i < ks.length:=(ds3.mp hlen).1
     have flen:(rs.flatten.length:Int)=(ks.take i).sum:=by
       rw[<-lens];clear lens rows pm
       induction rs with
       |nil=>rfl
       |cons r rs ih=>rw[dt9,ds8,du9,dz4,eh0,ih]
     have alen:as.length<=12:=by
       have e1:=congrArg ef7 lens;rw[ds1,du1] at e1;have:=rows.1;omega
     refine ⟨_,rfl,.inl ⟨rfl,_,i5.of h8L⟩,_,rfl,(ln:Int),rfl,by omega,by omega,az2 (lo:=0) (n:=((ln:Nat):Int).toNat) (fun j ys σ H9=>∃(v:Option V) (os ms':List Int),σ=[v,some (.ref lf),some (.ref g)]/\ys=os.map V.int/\os.length=j/\H9 lf=some (.lst (ms'.map V.int))/\(rs.flatten++os++ms').Perm (n6 0 s)/\x4 H9 g (c+(ks.take i).sum.toNat+j)/\∀b o,H8 b=some o->b≠g->b≠lf->H9 b=some o)
       ⟨none,[],ms,rfl,rfl,rfl,h8f,by rw[du8];exact pm,P8,fun b o h _ _=>h⟩ ?_ ?_⟩
     · rintro j ys σ H9 hj ⟨v,os,ms',rfl,rfl,lo,h9f,pm9,P9,kp9⟩
       have lms:rs.flatten.length+os.length+ms'.length=s:=by
         have:=pm9.length_eq;rw[ds8,ds8,t8] at this;exact this
       have em:(ms'.map V.int).length=ms'.length:=ds1 ..;refine ⟨_,rfl,.inl ⟨rfl,_,i5.of h9f⟩,_,rfl,_,rfl,lf,_,rfl,.inl (i5.of h9f),g,_,_,rfl,P9,by omega,(by rw[em];omega),(by rw[em];omega),fun x H10 x0 x1 P10 kb10=> ?_⟩;rw[em] at x1;obtain ⟨jn,rfl⟩:=dz2 x0
       have hjl:jn < ms'.length:=by omega
       have h10f:=kb10 _ _ h9f nfg;refine ⟨lf,_,_,jn,.int ms'[jn],rfl,rfl,h10f,by omega,by omega,?_,by rw[ds9,ds2 hjl];rfl,o9 (by rw[ds1];omega),?_⟩
       · have:ixN (ms'.map V.int).length (jn:Int)=some jn:=by
           unfold ixN;rw[em,if_pos (by omega),if_pos (by omega)];simp
         exact (bd3 this).1
       · refine ⟨_,os++[ms'[jn]],ms'.eraseIdx jn,rfl,by rw[dt1];rfl,by rw[ds8,lo];rfl,by rw[c8,bk9],?_,ae0 P10 nfg,fun b o hb h1 h2=>by rw[g8 h2];exact kb10 b o (kp9 b o hb h1 h2) h1⟩;have pe:=az4 (l:=ms') (k:=jn) (ds2 hjl);refine List.Perm.trans ?_ pm9;rw[du2,du2,du2];refine List.Perm.append_left _ (List.Perm.append_left os pe)
     · rintro ys σ H9 ⟨v,os,ms',rfl,rfl,lo,h9f,pm9,P9,kp9⟩ oa hoa;rw[hln] at lo P9;have s10:e8 H9 (c9 H9 oa (.lst (os.map V.int))):=e8.upd_new hoa;have h10a:(c9 H9 oa (.lst (os.map V.int))) oa=some (.lst (os.map V.int)):=c8;generalize (c9 H9 oa (.lst (os.map V.int)))=H10 at s10 h10a ⊢;have h9L:=kp9 _ _ h8L nLg nLf;have noag:oa≠g:=E3 P9 hoa;have noaf:oa≠lf:=(g6 h9f hoa).symm;have noaL:oa≠L:=(g6 h9L hoa).symm
       have es2:as.map V.ref++[V.ref oa]=(as++[oa]).map V.ref:=by rw[dt1];rfl
       refine ⟨L,_,_,rfl,rfl,s10 _ _ h9L,o9 (by rw[ds1];omega),?_⟩;rw[es2];have k11:i8 L H10 (c9 H10 L (.lst ((as++[oa]).map V.ref))):=i8.upd;refine ⟨as++[oa],rs++[os],ms',_,rfl,c8,?_,?_,by rw[g8 nLf.symm];exact s10 _ _ h9f,?_,?_,?_,?_⟩
       · exact K7 (t9 rows fun b hb o e=>k11 b o (s10 _ _ (kp9 b o e (nas b hb).2.2 (nas b hb).2.1)) (nas b hb).1) (k11 _ _ h10a noaL)
       · rw[dt1,lens,et,eg6,lo]
       · rw[dx0,dz6];exact pm9
       · refine (ae0 (x9 P9 s10) nLg).mono ?_;rw[et,ec0,ec1];omega
       · intro b o hb nb;have nbL:b≠L:=g6 hb hL0;have nbf:b≠lf:=g6 hb hlf0;exact k11 b o (s10 _ _ (kp9 b o (kb8 b o hb nb) nb nbf)) nbL
       · intro b hb
         rcases dt4.mp hb with z|z
         · exact nas b z
         · rw[dt3.mp z];exact ⟨noaL,noaf,noag⟩
   · rintro σ H8 ⟨as,rs,ms,v4,rfl,h8L,rows,lens,h8f,pm,P8,kb8,nas⟩;rw[ds1,du7] at lens P8
     have flen:(rs.flatten.length:Int)=ks.sum:=by
       rw[<-lens];clear lens rows pm
       induction rs with
       |nil=>rfl
       |cons r rs ih=>rw[dt9,ds8,du9,dz4,eh0,ih]
     have fs:rs.flatten.length=s:=by omega
     have m0:ms=[]:=by
       have:=pm.length_eq;rw[ds8,t8] at this;exact el1 (by omega)
     rw[m0,du8] at pm;have isT:o6 rs.flatten:=⟨pm.nodup_iff.mpr (K6 _),fun x hx=>(A4.mp (pm.mem_iff.mp hx)).1,fun x hx=>by rw[fs];exact (A4.mp (pm.mem_iff.mp hx)).2⟩
     have ne:∀r∈rs,r≠[]:=fun r hr e=>by
       have:=kpos _ (by rw[<-lens];exact dt0.mpr ⟨r,hr,rfl⟩);rw[e] at this;simp at this
     refine ⟨_,rfl,L,as,rs,rfl,h8L,rows,ne,isT,by omega,fun o t H9 ho s9 h9 tl al=> ?_⟩
     have pm2:rs.flatten.Perm (n6 0 t.length):=by rw[tl,fs];exact pm
     exact q o t H9 (kb8.free ho (E3 P8 ho)) ⟨h9,au7 al pm2,by omega⟩ (by omega) (fun l l1=>dj4 al pm2 lens l1) ((x9 P8 s9).mono (by omega)) (kb8.trans (s9.but g))
def bg9:Sp:=fun vs H Q _=>∃(g:Addr) (n m c:Nat),vs=[.ref g,.int (n:Int),.int (m:Int)]/\x4 H g c/\c<=100000/\n<=12/\1<=m/\m<=1000000000000000000000000000000/\∀(H':Hp),x4 H' g (c+1200)->i8 g H H'->Q (.bl true) H'
theorem dn7:∀n,n < 13->E9 n<=479001600:=by decide+kernel
theorem dd3 {n:Nat}(hn:n<=12){k:List Int}(hk:k∈n5 12 n n):C7 k<=E9 n:=by
 rw[<-bx5 n (by omega)];exact bg6 hk
theorem cy1 {n x:Nat}(hn:n<=12)(h:x<=E9 n):((x:Nat):Int).natAbs < 2^20000:=by
 rw[ee1];exact dw0 (dt6 h (dn7 n (by omega))) (dx4 (show 479001600 < 2^29 by decide) (ei0 (by decide) (by decide)))
theorem J8:l8 ["pool","many","times","total","have","kind","roots"] ["pool","many","times"] (j5 ah1):=by rfl'
theorem bv7 {f:Addr}{fd:FuncData}(F:x6 K "_law_right" "_law_right" ah1 f fd)(B:Bl mg)(zwx:j7 P w K mg base "kinds_of" 14 ["n"] Y1)(zzz:j7 P w K mg base "how_many_roots" 4 ["p","m"] aj2)(zvx:j7 P w K mg base "_law_turn_of" 4 ["pool","kind"] am4)(zwz:j7 P w K mg base "how_many_of" 5 ["kind"] ar9)(zu:j7 P w K mg base "_law_product" 1 ["many"] T0)(zqy:j7 P w K mg base "how_many_have" 15 ["n","m"] bt4)(zqx:j7 P w K mg base "how_many_home" 5 ["n","m"] bf4):o7 P w K mg base x5 16 f fd ["pool","many","times"] bg9:=by
 refine F.ok J8 (fun vs H Q E h=> ?_) (fun cdv A outer s H vs Q E hr h=> ?_)
 · obtain ⟨g,n,m,c,rfl,hg,hc,hn,m1,m2,q⟩:=h;rfl
 · obtain ⟨g,n,m,c,rfl,hg,hc,hn,m1,m2,q⟩:=h;have zsx:l6 14 _:=hr.mono (by decide);have zyy:l6 4 _:=hr.mono (by decide);have zoy:l6 4 _:=hr.mono (by decide);have zsy:l6 5 _:=hr.mono (by decide);have zox:l6 1 _:=hr.mono (by decide);have ziy:l6 15 _:=hr.mono (by decide);have zix:l6 5 _:=hr.mono (by decide);refine ⟨_,@c7 _ _ _ _ _ (@i6 _ _ (3) _ _ _ _ J8.nd rfl (Or.inl rfl) (@g7 _ _ _ _) (by rfl) (by trivial)) (@c7 _ _ _ _ _ (@i6 _ _ (4) _ _ _ _ J8.nd rfl (Or.inl rfl) (@g7 _ _ _ _) (by rfl) (by trivial)) (@c7 _ _ _ _ _ (@l9 _ _ _ _ _ _ _ _ PassesOwn.never rfl (@t5 _ _ _ _ (@i4 _ _ _ _ _ _ _ _ _ _ zwx zsx (@c5 _ _ _ _ _ (pv 1) (@c6 _) (by rfl)) (by rfl) (by decide) (by rfl) (by rfl))) (@i9 _ _ (5) _ J8.nd rfl (Or.inl rfl) (by trivial)) (@c7 _ _ _ _ _ (@i6 _ _ (6) _ _ _ _ J8.nd rfl (Or.inl rfl) (@i4 _ _ _ _ _ _ _ _ _ _ zzz zyy (@c5 _ _ _ _ _ (@i4 _ _ _ _ _ _ _ _ _ _ zvx zoy (@c5 _ _ _ _ _ (pv 0) (@c5 _ _ _ _ _ (pv 5) (@c6 _) (by rfl)) (by rfl)) (by rfl) (by decide) (by rfl) (by rfl)) (@c5 _ _ _ _ _ (pv 2) (@c6 _) (by rfl)) (by rfl)) (by rfl) (by decide) (by rfl) (by rfl)) (by rfl) (by trivial)) (@c7 _ _ _ _ _ (@i6 _ _ (3) _ _ _ _ J8.nd rfl (Or.inl rfl) (@j6 _ _ _ _ _ _ _ _ x3 (pv 3) (@j6 _ _ _ _ _ _ _ _ ar5 (pv 6) (@i4 _ _ _ _ _ _ _ _ _ _ zwz zsy (@c5 _ _ _ _ _ (pv 5) (@c6 _) (by rfl)) (by rfl) (by decide) (by rfl) (by rfl)))) (by rfl) (by trivial)) (@e7 _ _ _ (@i6 _ _ (4) _ _ _ _ J8.nd rfl (Or.inl rfl) (@j6 _ _ _ _ _ _ _ _ x3 (pv 4) (@j6 _ _ _ _ _ _ _ _ ar5 (@i4 _ _ _ _ _ _ _ _ _ _ zwz zsy (@c5 _ _ _ _ _ (pv 5) (@c6 _) (by rfl)) (by rfl) (by decide) (by rfl) (by rfl)) (@by9 _ _ _ _ _ B.int (@c5 _ _ _ _ _ (@aa9 _ _ _ _ _ _ _ _ ay4 (pv 6) (@g7 _ _ _ _) (q5 _)) (@c6 _) (by rfl)) (by rfl) (by rfl)))) (by rfl) (by trivial))))) (by intro _;rfl)) (@c7 _ _ _ _ _ (@y9 _ _ _ _ _ _ _ _ (@aa1 _ _ _ _ _ _ _ (@t6 _ _ _ _ _ _ _ _ aq3 (pv 3) (@i4 _ _ _ _ _ _ _ _ _ _ zu zox (@c5 _ _ _ _ _ (pv 1) (@c6 _) (by rfl)) (by rfl) (by decide) (by rfl) (by rfl)) (q5 _)) (@ac0 _ _ _ _ (@t6 _ _ _ _ _ _ _ _ aq3 (pv 4) (@i4 _ _ _ _ _ _ _ _ _ _ zqy ziy (@c5 _ _ _ _ _ (pv 1) (@c5 _ _ _ _ _ (pv 2) (@c6 _) (by rfl)) (by rfl)) (by rfl) (by decide) (by rfl) (by rfl)) (q5 _)))).pt (@e7 _ _ _ (@l5 _ _ _ _ (@J9 _ _ _ _))) (@q0 _)) (@e7 _ _ _ (@l5 _ _ _ _ (@aa9 _ _ _ _ _ _ _ _ U0 (@i4 _ _ _ _ _ _ _ _ _ _ zqx zix (@c5 _ _ _ _ _ (pv 1) (@c5 _ _ _ _ _ (pv 2) (@c6 _) (by rfl)) (by rfl)) (by rfl) (by decide) (by rfl) (by rfl)) (@i4 _ _ _ _ _ _ _ _ _ _ zzz zyy (@c5 _ _ _ _ _ (@ak0 _ _ _ _ _ _ _ rfl B.list B.range (@c5 _ _ _ _ _ (pv 1) (@c6 _) (by rfl)) (by rfl) (by rfl) (by rfl) (by rfl)) (@c5 _ _ _ _ _ (pv 2) (@c6 _) (by rfl)) (by rfl)) (by rfl) (by decide) (by rfl) (by rfl)) (q5 _))))))),?_⟩;refine ⟨_,rfl,n,rfl,hn,fun L as H1 hL s1 h1 rows fas _ _=> ?_⟩;have nLg:L≠g:=E3 hg hL
   have many:=aa8 12 (by decide) n (by omega) n (by omega)
   refine ⟨L,rfl,⟨_,i5.of h1⟩,w4 (K:=K) (a:=L) (xs:=as.map V.ref) (fun j σ H2=>∃(v5 v6:Option V),σ=[some (.ref g),some (.int (n:Int)),some (.int (m:Int)),some (.int (((((n5 12 n n).take j).map fun k=>C2 k m n*C7 k).sum:Nat):Int)),some (.int (((((n5 12 n n).take j).map fun k=>C7 k*(if 0 < C2 k m n then 1 else 0)).sum:Nat):Int)),v5,v6]/\x4 H2 g (c+12*j)/\i8 g H1 H2)
     ⟨none,none,rfl,x9 hg s1,i8.refl _ _⟩ (fun j σ H2 _ zz=>by obtain ⟨_,_,_,_,kb⟩:=zz;exact i5.of (kb _ _ h1 nLg)) ?_ ?_⟩
   · rintro j x σ H2 hj ⟨v5,v6,rfl,P2,kb2⟩
     obtain ⟨e,he,rfl⟩:∃a,as[j]? =some a/\x=V.ref a:=by
       rw[ds9] at hj
       cases e:as[j]? with
       |none=>rw[e] at hj;cases hj
       |some a=>rw[e] at hj;exact ⟨a,rfl,(Option.some.inj hj).symm⟩
     have jl:j < (n5 12 n n).length:=by rw[<-rows.1];exact (ds3.mp he).1
     obtain ⟨k,hk⟩:∃k,(n5 12 n n)[j]? =some k:=⟨_,ds2 jl⟩;have km:=dt2 hk;have neg:e≠g:=E3 hg (fas e (dt2 he));have h2e:=kb2 _ _ (rows.2 j e k he hk) neg;obtain ⟨kpos,_,ksum,_⟩:=ab7 n (by omega) k km;have isK:=au4 hn km;refine ⟨_,rfl,_,rfl,g,e,k,_,rfl,P2,by omega,h2e,neg,kpos,by omega,fun o t H3 ho T3 tl cnt P3 kb3=>⟨_,rfl,o,t,m,rfl,T3,m1,fun H4 s4=> ?_⟩⟩;have eR:R4 t m=C2 k m n:=bv5 cnt (by omega);rw[eR];have b1:=cy1 hn (cc4 m hn km);have b2:=cy1 hn (dd3 hn km);have h4e:=s4 _ _ (kb3 _ _ h2e neg);refine ⟨_,rfl,_,rfl,_,rfl,e,k,rfl,h4e,isK,fun H5 s5=>⟨_,_,rfl,rfl,⟨b1,b2⟩,_,_,rfl,rfl,?_⟩⟩;refine ⟨_,rfl,_,rfl,e,k,rfl,s5 _ _ h4e,isK,fun H6 s6=>⟨_,rfl,_,_,rfl,rfl,_,rfl,_,_,rfl,rfl,⟨b2,?_⟩,_,_,rfl,rfl,?_⟩⟩
     · exact dw0 (show _<=1 by split<;>decide) (Nat.one_lt_two_pow (by decide))
     · have e1:V.int (((((n5 12 n n).take j).map fun k=>C2 k m n*C7 k).sum:Nat)+((C2 k m n:Nat):Int)*((C7 k:Nat):Int))=V.int (((((n5 12 n n).take (j+1)).map fun k=>C2 k m n*C7 k).sum:Nat):Int):=by
         rw[i7 hk,dt1,ec0,eg6,ec1,eh0,dy6]
       have e2:V.int (((((n5 12 n n).take j).map fun k=>C7 k*(if 0 < C2 k m n then 1 else 0)).sum:Nat)+((C7 k:Nat):Int)*(if decide ((0:Int) < ((C2 k m n:Nat):Int))=true then 1 else 0))=V.int (((((n5 12 n n).take (j+1)).map fun k=>C7 k*(if 0 < C2 k m n then 1 else 0)).sum:Nat):Int):=by
         rw[i7 hk,dt1,ec0,eg6,ec1,eh0,dy6]
         congr 3
         by_cases z:0 < C2 k m n
         · rw[if_pos z,if_pos (decide_eq_true (Int.natCast_pos.mpr z))];rfl
         · rw[if_neg z,if_neg fun y=>z (Int.natCast_pos.mp (of_decide_eq_true y))];rfl
       refine ⟨some (.ref e),some (.int ((C2 k m n:Nat):Int)),?_,((x9 P3 (s4.trans (s5.trans s6))).mono (by omega)),kb2.trans (kb3.trans ((s4.trans (s5.trans s6)).but g))⟩;rw[<-e1,<-e2];rfl
   · rintro σ H2 ⟨v5,v6,rfl,P2,kb2⟩;rw[ds1,rows.1,du7,cc3 m hn,dj3 hn m1];refine ⟨_,rfl,_,rfl,n,rfl,by omega,rfl,_,rfl,aq8 rfl ⟨_,rfl,_,rfl,_,rfl,n,m,rfl,hn,m1,m2,fun H3 s3=>⟨rfl,_,rfl,aq8 rfl ?_⟩⟩⟩;refine ⟨_,rfl,_,rfl,n,m,rfl,hn,m1,fun H4 s4=>⟨_,rfl,(n:Int),rfl,fun rg hrg=> ?_⟩⟩;have s5:e8 H4 (c9 H4 rg (.rng 0 (n:Int))):=e8.upd_new hrg;have h5:(c9 H4 rg (.rng 0 (n:Int))) rg=some (.rng 0 (n:Int)):=c8;generalize (c9 H4 rg (.rng 0 (n:Int)))=H5 at s5 h5 ⊢;refine ⟨rg,0,_,rfl,h5,⟨by omega,by omega,by omega,by omega⟩,by omega,fun st hst=> ?_⟩;rw[show ((n:Int) - 0).toNat=n by omega];have s6:e8 H5 (c9 H5 st (.lst ((n6 0 n).map V.int))):=e8.upd_new hst;have h6:(c9 H5 st (.lst ((n6 0 n).map V.int))) st=some (.lst ((n6 0 n).map V.int)):=c8;generalize (c9 H5 st (.lst ((n6 0 n).map V.int)))=H6 at s6 h6 ⊢;refine ⟨_,rfl,st,n6 0 n,m,rfl,⟨h6,⟨K6 _,fun x hx=>(A4.mp hx).1,fun x hx=>by rw[t8];exact (A4.mp hx).2⟩,by rw[t8];omega⟩,m1,fun H7 s7=>⟨rfl,?_⟩⟩;rw[dj5,bt2 hn,decide_eq_true rfl];have s27:=s3.trans (s4.trans (s5.trans (s6.trans s7)));have:=rows.1;exact q H7 ((x9 P2 s27).mono (by rw[ds1];omega)) ((s1.but g).trans (kb2.trans (s27.but g)))
def R5 (r:List Int):List o3:=r.map Sum.inl
theorem cv6 {a b:List Int}(h:R5 a=R5 b):a=b:=(List.map_inj_right (fun x y (h:(Sum.inl x:o3)=Sum.inl y)=>Sum.inl.inj h)).mp h
theorem cc5 (r:List Int):(R5 r).map kV=r.map V.int:=by
 unfold R5;rw[dw5];rfl
theorem bv8 {kvs:List (List o3×V)}{us:List (List Int)}{r:List Int}(h:kvs.map (·.1)=us.map R5)(n:r∉us):A7 kvs (R5 r)=none:=by
 cases e:A7 kvs (R5 r) with
 |none=>rfl
 |some v=>
  have:=cz4 e;rw[h] at this;obtain ⟨y,hy,e2⟩:=dt0.mp this;exact absurd (cv6 e2▸hy) n
theorem cv7 {kvs:List (List o3×V)}{us:List (List Int)}{r:List Int}{v:V}(h:kvs.map (·.1)=us.map R5)(n:r∉us):(M5 kvs (R5 r) v).map (·.1)=(us++[r]).map R5:=by
 have a:¬(kvs.any fun kv=>decide (kv.1=R5 r))=true:=by
   rw[ac4,bv8 h n]
   decide
 unfold M5;rw[if_neg a,dt1,dt1,h];rfl
theorem dd4 {α:Type}{ts:List α}{i:Nat}{r:α}(nd:ts.Nodup)(h:ts[i]? =some r):r∉ts.take i:=fun z=>by
 have:=nd.sublist (List.take_sublist (i+1) ts);rw[i7 h] at this;exact (dy3.mp this).2.2 r z r ds5 rfl
def KG (S:Addr->Prop)(H H':Hp):Prop:=∀x u,H x=some u->¬S x->(∀kvs,u≠.dK kvs)->H' x=some u
def cg5:Sp:=fun vs H Q _=>∃(g:Addr) (n m c:Nat),vs=[.ref g,.int (n:Int),.int (m:Int)]/\x4 H g c/\c<=100000/\n<=5/\1<=m/\m<=1000000000000000000000000000000/\∀(H':Hp),KG (· =g) H H'->Q (.bl true) H'
theorem E5:l8 ["pool","many","times","met","kind","p","roots","root"] ["pool","many","times"] (j5 V3):=by rfl'
theorem ay0 {f:Addr}{fd:FuncData}(F:x6 K "_law_few_right" "_law_few_right" V3 f fd)(B:Bl mg)(zwx:j7 P w K mg base "kinds_of" 14 ["n"] Y1)(zvx:j7 P w K mg base "_law_turn_of" 4 ["pool","kind"] am4)(zlx:j7 P w K mg base "all_roots" 44 ["p","m"] bu9)(zzz:j7 P w K mg base "how_many_roots" 4 ["p","m"] aj2)(zu:j7 P w K mg base "_law_product" 1 ["many"] T0):o7 P w K mg base x5 45 f fd ["pool","many","times"] cg5:=by
 refine F.ok E5 (fun vs H Q E h=> ?_) (fun cdv A outer s H vs Q E hr h=> ?_)
 · obtain ⟨g,n,m,c,rfl,hg,hc,hn,m1,m2,q⟩:=h;rfl
 · obtain ⟨g,n,m,c,rfl,hg,hc,hn,m1,m2,q⟩:=h;have zsx:l6 14 _:=hr.mono (by decide);have zoy:l6 4 _:=hr.mono (by decide);have zfy:l6 44 _:=hr.mono (by decide);have zyy:l6 4 _:=hr.mono (by decide);have zox:l6 1 _:=hr.mono (by decide);have hu:=X1 hr;refine ⟨_,@c7 _ _ _ _ _ (@i6 _ _ (3) _ _ _ _ E5.nd rfl (Or.inl rfl) (@cq1 _ _) (by rfl) (by trivial)) (@c7 _ _ _ _ _ (@l9 _ _ _ _ _ _ _ _ PassesOwn.never rfl (@t5 _ _ _ _ (@i4 _ _ _ _ _ _ _ _ _ _ zwx zsx (@c5 _ _ _ _ _ (pv 1) (@c6 _) (by rfl)) (by rfl) (by decide) (by rfl) (by rfl))) (@i9 _ _ (4) _ E5.nd rfl (Or.inl rfl) (by trivial)) (@c7 _ _ _ _ _ (@i6 _ _ (5) _ _ _ _ E5.nd rfl (Or.inl rfl) (@i4 _ _ _ _ _ _ _ _ _ _ zvx zoy (@c5 _ _ _ _ _ (pv 0) (@c5 _ _ _ _ _ (pv 4) (@c6 _) (by rfl)) (by rfl)) (by rfl) (by decide) (by rfl) (by rfl)) (by rfl) (by trivial)) (@c7 _ _ _ _ _ (@i6 _ _ (6) _ _ _ _ E5.nd rfl (Or.inl rfl) (@i4 _ _ _ _ _ _ _ _ _ _ zlx zfy (@c5 _ _ _ _ _ (pv 5) (@c5 _ _ _ _ _ (pv 2) (@c6 _) (by rfl)) (by rfl)) (by rfl) (by decide) (by rfl) (by rfl)) (by rfl) (by trivial)) (@c7 _ _ _ _ _ (@y9 _ _ _ _ _ _ _ _ (@t6 _ _ _ _ _ _ _ _ aq3 (@y7 _ _ _ _ _ B.len (@c5 _ _ _ _ _ (pv 6) (@c6 _) (by rfl)) (by rfl) (by rfl)) (@i4 _ _ _ _ _ _ _ _ _ _ zzz zyy (@c5 _ _ _ _ _ (pv 5) (@c5 _ _ _ _ _ (pv 2) (@c6 _) (by rfl)) (by rfl)) (by rfl) (by decide) (by rfl) (by rfl)) (q5 _)) (@e7 _ _ _ (@l5 _ _ _ _ (@J9 _ _ _ _))) (@q0 _)) (@e7 _ _ _ (@l9 _ _ _ _ _ _ _ _ PassesOwn.never rfl (@t5 _ _ _ _ (pv 6)) (@i9 _ _ (7) _ E5.nd rfl (Or.inl rfl) (by trivial)) (@c7 _ _ _ _ _ (@y9 _ _ _ _ _ _ _ _ (@bm7 _ _ _ _ _ _ (@cj0 _ _ _ _ _ hu (@M4 _ _ _ _ _ _ _ _ _ am6 (by rfl) B.tuple au0 (@c5 _ _ _ _ _ (pv 7) (@c6 _) (by rfl)) (by decide) (by decide) (by rfl) (by rfl)) (pv 3)) (by first|exact nobehind _ (by decide) (by decide)|rfl)) (@e7 _ _ _ (@l5 _ _ _ _ (@J9 _ _ _ _))) (@q0 _)) (@e7 _ _ _ (@aq7 _ _ _ _ _ _ _ _ _ hu (pv 3) (@M4 _ _ _ _ _ _ _ _ _ am6 (by rfl) B.tuple au0 (@c5 _ _ _ _ _ (pv 7) (@c6 _) (by rfl)) (by decide) (by decide) (by rfl) (by rfl)) (@J9 _ _ _ _) rfl))) (by intro _;rfl)))))) (by intro _;rfl)) (@e7 _ _ _ (@l5 _ _ _ _ (@aa9 _ _ _ _ _ _ _ _ ay3 (@O2 _ _ _ _ _ _ _ _ _ ce8 (by rfl) B.len PySem.boot_len (@c5 _ _ _ _ _ (pv 3) (@c6 _) (by rfl)) (by decide) (by decide) (by rfl) (by rfl)) (@i4 _ _ _ _ _ _ _ _ _ _ zu zox (@c5 _ _ _ _ _ (pv 1) (@c6 _) (by rfl)) (by rfl) (by decide) (by rfl) (by rfl)) (q5 _))))),?_⟩;intro d hd;have s0:e8 H (c9 H d (.dT [])):=e8.upd_new hd;have h0:(c9 H d (.dT [])) d=some (.dT []):=c8;generalize (c9 H d (.dT []))=H0 at s0 h0 ⊢;have ndg:d≠g:=E3 hg hd;refine ⟨_,rfl,n,rfl,by omega,fun L as H1 hL s1 h1 rows fas _ _=> ?_⟩;have nLg:L≠g:=E3 (x9 hg s0) hL;have nLd:L≠d:=(g6 h0 hL).symm;have many:=aa8 12 (by decide) n (by omega) n (by omega)
   have lstD:∀(xs:List V) (kvs:List (o3×V)),HO.lst xs≠.dK kvs:=fun xs kvs z=>by cases z
   refine ⟨L,rfl,⟨_,i5.of h1⟩,w4 (K:=K) (a:=L) (xs:=as.map V.ref) (fun j σ H2=>∃(us:List (List Int)) (kvs:List (List o3×V)) (v4 v5 v6 v7:Option V),σ=[some (.ref g),some (.int (n:Int)),some (.int (m:Int)),some (.ref d),v4,v5,v6,v7]/\H2 d=some (.dT kvs)/\kvs.map (·.1)=us.map R5/\us.length=(((n5 12 n n).take j).map fun k=>C2 k m n).sum/\(∀u∈us,∃(i:Nat) (k t:List Int),i < j/\(n5 12 n n)[i]? =some k/\(∀l,1<=l->l7 (j9 t t.length) l=B8 k l)/\B7 u (m:Int) t)/\x4 H2 g (c+12*j)/\KG (fun x=>x=g\/x=d) H1 H2)
     ⟨[],[],none,none,none,none,rfl,s1 _ _ h0,rfl,rfl,(fun u hu=>by cases hu),x9 hg (s0.trans s1),fun x u e _ _=>e⟩ (fun j σ H2 _ zz=>by obtain ⟨_,_,_,_,_,_,_,_,_,_,_,_,kg⟩:=zz;exact i5.of (kg _ _ h1 (fun z=>z.elim nLg nLd) (lstD _))) ?_ ?_⟩
   · rintro j x σ H2 hj ⟨us,kvs,v4,v5,v6,v7,rfl,h2d,ek,ul,src,P2,kg2⟩
     obtain ⟨e,he,rfl⟩:∃a,as[j]? =some a/\x=V.ref a:=by
       rw[ds9] at hj
       cases e:as[j]? with
       |none=>rw[e] at hj;cases hj
       |some a=>rw[e] at hj;exact ⟨a,rfl,(Option.some.inj hj).symm⟩
     have jl:j < (n5 12 n n).length:=by rw[<-rows.1];exact (ds3.mp he).1
     obtain ⟨k,hk⟩:∃k,(n5 12 n n)[j]? =some k:=⟨_,ds2 jl⟩;have km:=dt2 hk;have e0:=fas e (dt2 he);have neg:e≠g:=E3 (x9 hg s0) e0;have ned:e≠d:=(g6 h0 e0).symm;have h2e:=kg2 _ _ (rows.2 j e k he hk) (fun z=>z.elim neg ned) (lstD _);obtain ⟨kpos,_,ksum,_⟩:=ab7 n (by omega) k km;refine ⟨_,rfl,_,rfl,g,e,k,_,rfl,P2,by omega,h2e,neg,kpos,by omega,fun o t H3 ho T3 tl cnt P3 kb3=> ?_⟩;have eR:R4 t m=C2 k m n:=bv5 cnt (by omega);have f5:=dq6 n (by omega);have fo:=cc4 m (show n<=12 by omega) km;have fs:=dt6 (cu9 (f:=fun k=>C2 k m n) (n5 12 n n) (j+1)) (bg7 m (show n<=12 by omega));rw[i7 hk,dt1,ec0,eg6,ec1] at fs;have h3d:=kb3 _ _ h2d ndg;refine ⟨_,rfl,_,rfl,o,t,m,rfl,T3,m1,by omega,fun ro bs ts H4 hro h4r rows4 ar ndb fbs nob kp=> ?_⟩;have h4d:H4 d=some (.dT kvs):=kp.nd d _ h3d (fun kvs z=>by cases z);have T4:R8 H4 o t:=⟨kp.lst T3.1,T3.2⟩;have ndt:=ar.nd T3.2.1 T3.2.2 m1
     have tlen:ts.length=C2 k m n:=by rw[ar.len,eR]
     have P4:x4 H4 g (c+12*j+12):=by
       obtain ⟨x,y,z,e,r⟩:=P3;exact ⟨x,y,z,kp.lst e,r⟩
     refine ⟨_,rfl,ro,_,rfl,.inl (i5.of h4r),_,rfl,_,rfl,o,t,m,rfl,T4,m1,fun H5 s5=>⟨rfl,_,rfl,aq8 (congrArg V.int (by rw[ds1,rows4.1,ar.len])) ?_⟩⟩;have nrd:ro≠d:=(g6 h3d hro).symm
     have nbd:∀b∈bs,b≠d:=fun b hb=>(g6 h3d (fbs b hb)).symm
     have h5r:=s5 _ _ h4r
     refine ⟨_,rfl,ro,rfl,⟨_,i5.of h5r⟩,w4 (K:=K) (a:=ro) (xs:=bs.map V.ref) (fun i σ H6=>∃(kvs':List (List o3×V)) (v7:Option V),σ=[some (.ref g),some (.int (n:Int)),some (.int (m:Int)),some (.ref d),some (.ref e),some (.ref o),some (.ref ro),v7]/\H6 d=some (.dT kvs')/\kvs'.map (·.1)=(us++ts.take i).map R5/\i8 d H5 H6)
       ⟨kvs,v7,rfl,s5 _ _ h4d,by rw[eb9,du8];exact ek,i8.refl _ _⟩ (fun i σ H6 _ zz=>by obtain ⟨_,_,_,_,_,kb⟩:=zz;exact i5.of (kb _ _ h5r nrd)) ?_ ?_⟩
     · rintro i x σ H6 hi ⟨kvs',w7,rfl,h6d,ek',kb6⟩
       obtain ⟨b,hb,rfl⟩:∃a,bs[i]? =some a/\x=V.ref a:=by
         rw[ds9] at hi
         cases e:bs[i]? with
         |none=>rw[e] at hi;cases hi
         |some a=>rw[e] at hi;exact ⟨a,rfl,(Option.some.inj hi).symm⟩
       have il:i < ts.length:=by rw[<-rows4.1];exact (ds3.mp hb).1
       obtain ⟨r,hr⟩:∃r,ts[i]? =some r:=⟨_,ds2 il⟩;have bd:=nbd b (dt2 hb);have h6b:=kb6 _ _ (s5 _ _ (rows4.2 i b r hb hr)) bd;have rm:=(ar.mem T3.2.1 T3.2.2 m1).mp (dt2 hr)
       have nin:r∉us++ts.take i:=fun z=>by
         rcases dt4.mp z with z|z
         · obtain ⟨i',k',t',lt,hk',cnt',pw'⟩:=src r z;have:=pw'.uniq rm.2;subst this;exact cv5 hn hk' hk lt cnt' cnt
         · exact dd4 ndt hr z
       refine ⟨_,rfl,b,_,rfl,.inl ⟨i5.of h6b,fun tp htp=> ?_⟩⟩;have s7:e8 H6 (c9 H6 tp (.tup (r.map V.int))):=e8.upd_new htp
       have h7:(c9 H6 tp (.tup (r.map V.int))) tp=some (.tup ((R5 r).map kV)):=by rw[cc5];exact c8
       generalize (c9 H6 tp (.tup (r.map V.int)))=H7 at s7 h7 ⊢;refine ⟨_,rfl,d,none,rfl,bv8 ek' nin▸U1.t (s7 _ _ h6d) h7,_,rfl,G5 ?_⟩;refine ⟨_,rfl,_,rfl,b,_,rfl,.inl ⟨i5.of (s7 _ _ h6b),fun tp2 htp2=> ?_⟩⟩;have s8:e8 H7 (c9 H7 tp2 (.tup (r.map V.int))):=e8.upd_new htp2
       have h8:(c9 H7 tp2 (.tup (r.map V.int))) tp2=some (.tup ((R5 r).map kV)):=by rw[cc5];exact c8
       generalize (c9 H7 tp2 (.tup (r.map V.int)))=H8 at s8 h8 ⊢
       have kl:kvs'.length<=120:=by
         have a:=congrArg ef7 ek';rw[ds1,ds1,ds8,du1] at a;omega
       have h8d:=s8 _ _ (s7 _ _ h6d);refine ⟨d,_,rfl,ag1.t h8d h8 (o9 (by omega)),?_⟩;refine ⟨M5 kvs' (R5 r) (.bl true),some (.ref b),rfl,c8,?_,fun x u hx nx=> ?_⟩
       · rw[i7 hr,<-du2];exact cv7 ek' nin
       · exact i8.upd x u (s8 _ _ (s7 _ _ (kb6 x u hx nx))) nx
     · rintro σ H6 ⟨kvs',w7,rfl,h6d,ek',kb6⟩;rw[ds1,rows4.1,du7] at ek';refine ⟨us++ts,kvs',_,_,_,_,rfl,h6d,ek',?_,fun u hu=> ?_,?_,fun x u hx nx nu=> ?_⟩
       · rw[ds8,ul,tlen,i7 hk,dt1,ec0,eg6,ec1]
       · rcases dt4.mp hu with z|z
         · obtain ⟨i',k',t',lt,r'⟩:=src u z;exact ⟨i',k',t',by omega,r'⟩
         · exact ⟨j,k,t,by omega,hk,cnt,((ar.mem T3.2.1 T3.2.2 m1).mp z).2⟩
       · obtain ⟨x,y,z,e,r⟩:=(x9 P4 s5).mono (show c+12*j+12<=c+12*(j+1) by omega);exact ⟨x,y,z,kb6 _ _ e ndg.symm,r⟩
       · have a:=kg2 x u hx nx nu
         exact kb6 _ _ (s5 _ _ (kp.nd x u (kb3 _ _ a fun z=>nx (.inl z)) nu)) fun z=>nx (.inr z)
   · rintro σ H2 ⟨us,kvs,v4,v5,v6,v7,rfl,h2d,ek,ul,src,P2,kg2⟩;rw[ds1,rows.1,du7] at ul;have fs:=bg7 m (show n<=12 by omega)
     have kl:kvs.length<=E9 n:=by
       have a:=congrArg ef7 ek;rw[ds1,ds1] at a;omega
     refine ⟨_,rfl,d,kvs,rfl,h2d,_,rfl,n,rfl,by omega,_,_,rfl,rfl,?_⟩;show Q (.bl (decide ((kvs.length:Int)<=((E9 n:Nat):Int)))) H2;rw[decide_eq_true (show (kvs.length:Int)<=((E9 n:Nat):Int) by omega)]
     refine q H2 fun x u hx nx nu=>kg2 x u (s1 _ _ (s0 _ _ hx)) (fun z=>z.elim nx fun y=> ?_) nu
     rw[y,hd] at hx;cases hx
def bm3 (K:PySem.W.Frag):Sp:=fun vs H Q _=>∃(a:Addr) (ns:List Int),vs=[.ref a]/\i5 K H a (ns.map V.int)/\ns.length<=63/\∀H',Q (.bl true) H'
theorem bc9:l8 ["script","k","pool","many"] ["script"] (j5 ar6):=by rfl'
theorem dj6 {f:Addr}{fd:FuncData}(F:x6 K "law" "law" ar6 f fd)(B:Bl mg)(zky:j7 P w K mg base "_law_pool" 1 ["script","k"] (br3 K))(zzy:j7 P w K mg base "_law_take" 1 ["pool","many"] ao6)(zk:j7 P w K mg base "_law_right" 16 ["pool","many","times"] bg9)(znz:j7 P w K mg base "_law_times" 2 ["pool"] bf6)(zpz:j7 P w K mg base "_law_few_right" 45 ["pool","many","times"] cg5):o7 P w K mg base x5 46 f fd ["script"] (bm3 K):=by
 refine F.ok bc9 (fun vs H Q E h=> ?_) (fun cdv A outer s H vs Q E hr h=> ?_)
 · obtain ⟨a,ns,rfl,ha,hl,q⟩:=h;rfl
 · obtain ⟨a,ns,rfl,ha,hl,q⟩:=h;have zey:l6 1 _:=hr.mono (by decide);have zy:l6 1 _:=hr.mono (by decide);have zfx:l6 16 _:=hr.mono (by decide);have zj:l6 2 _:=hr.mono (by decide);have zh:l6 45 _:=hr.mono (by decide);refine ⟨_,@c7 _ _ _ _ _ (@l9 _ _ _ _ _ _ _ _ PassesOwn.never rfl (@X7 _ _ _ _ _ _ (by rfl) B.range (@c5 _ _ _ _ _ (@cz6 _ _ _ _ _ _ rfl B.max (@c5 _ _ _ _ _ (@g7 _ _ _ _) (@c5 _ _ _ _ _ (@bd5 _ _ _ _ _ _ rfl B.min (@c5 _ _ _ _ _ (@g7 _ _ _ _) (@c5 _ _ _ _ _ (@y7 _ _ _ _ _ B.len (@c5 _ _ _ _ _ (pv 0) (@c6 _) (by rfl)) (by rfl) (by rfl)) (@c6 _) (by rfl)) (by rfl)) (by rfl) (by rfl) (by rfl)) (@c6 _) (by rfl)) (by rfl)) (by rfl) (by rfl) (by rfl)) (@c6 _) (by rfl)) (by rfl)) (@i9 _ _ (1) _ bc9.nd rfl (Or.inl rfl) (by trivial)) (@c7 _ _ _ _ _ (@i6 _ _ (2) _ _ _ _ bc9.nd rfl (Or.inl rfl) (@i4 _ _ _ _ _ _ _ _ _ _ zky zey (@c5 _ _ _ _ _ (pv 0) (@c5 _ _ _ _ _ (pv 1) (@c6 _) (by rfl)) (by rfl)) (by rfl) (by decide) (by rfl) (by rfl)) (by rfl) (by trivial)) (@c7 _ _ _ _ _ (@i6 _ _ (3) _ _ _ _ bc9.nd rfl (Or.inl rfl) (@i4 _ _ _ _ _ _ _ _ _ _ zzy zy (@c5 _ _ _ _ _ (pv 2) (@c5 _ _ _ _ _ (@G9 _ _ _ _ _ _ _ C1 (@p8 _ _ _ _ (@c5 _ _ _ _ _ (@g7 _ _ _ _) (@c5 _ _ _ _ _ (@g7 _ _ _ _) (@c6 _) (by rfl)) (by rfl))) (@by9 _ _ _ _ _ B.int (@c5 _ _ _ _ _ (@aa9 _ _ _ _ _ _ _ _ U0 (pv 1) (@g7 _ _ _ _) (q5 _)) (@c6 _) (by rfl)) (by rfl) (by rfl)) (fun _ _=>rfl)) (@c6 _) (by rfl)) (by rfl)) (by rfl) (by decide) (by rfl) (by rfl)) (by rfl) (by trivial)) (@c7 _ _ _ _ _ (@y9 _ _ _ _ _ _ _ _ (@K4 _ _ _ _ (@K3 _ _ _ (@i4 _ _ _ _ _ _ _ _ _ _ zk zfx (@c5 _ _ _ _ _ (pv 2) (@c5 _ _ _ _ _ (pv 3) (@c5 _ _ _ _ _ (@i4 _ _ _ _ _ _ _ _ _ _ znz zj (@c5 _ _ _ _ _ (pv 2) (@c6 _) (by rfl)) (by rfl) (by decide) (by rfl) (by rfl)) (@c6 _) (by rfl)) (by rfl)) (by rfl)) (by rfl) (by decide) (by rfl) (by rfl)) (by intro _;rfl))) (@e7 _ _ _ (@l5 _ _ _ _ (@J9 _ _ _ _))) (@q0 _)) (@e7 _ _ _ (@y9 _ _ _ _ _ _ _ _ (@K4 _ _ _ _ (@K3 _ _ _ (@i4 _ _ _ _ _ _ _ _ _ _ zpz zh (@c5 _ _ _ _ _ (pv 2) (@c5 _ _ _ _ _ (@i4 _ _ _ _ _ _ _ _ _ _ zzy zy (@c5 _ _ _ _ _ (pv 2) (@c5 _ _ _ _ _ (@g7 _ _ _ _) (@c6 _) (by rfl)) (by rfl)) (by rfl) (by decide) (by rfl) (by rfl)) (@c5 _ _ _ _ _ (@i4 _ _ _ _ _ _ _ _ _ _ znz zj (@c5 _ _ _ _ _ (pv 2) (@c6 _) (by rfl)) (by rfl) (by decide) (by rfl) (by rfl)) (@c6 _) (by rfl)) (by rfl)) (by rfl)) (by rfl) (by decide) (by rfl) (by rfl)) (by intro _;rfl))) (@e7 _ _ _ (@l5 _ _ _ _ (@J9 _ _ _ _))) (@q0 _)))))) (by intro _;rfl)) (@e7 _ _ _ (@l5 _ _ _ _ (@J9 _ _ _ _))),?_⟩;refine ⟨_,rfl,a,_,rfl,.inl ha,6,_,rfl,1,_,rfl,_,rfl,?_⟩;obtain ⟨mx,hmx,hm1,hm2⟩:=da2 (n:=6) (c:=((ns.map V.int).length:Int)) (by decide) (by omega);rw[hmx]
   refine ⟨by omega,by omega,E8 (lo:=0) (n:=mx.toNat) (fun i σ H2=>∃v1 v2 v3:Option V,σ=[some (.ref a),v1,v2,v3]/\KG (fun _=>False) H H2)
     ⟨none,none,none,rfl,fun x u e _ _=>e⟩ ?_ (fun σ H2 _=>q H2)⟩
   rintro i σ H2 hi ⟨v1,v2,v3,rfl,k02⟩
   have ha2:i5 K H2 a (ns.map V.int):=by
     rcases ha with (e|⟨o,e⟩)|h
     · exact .inl (.inl (k02 _ _ e id (fun kvs z=>by cases z)))
     · exact .inl (.inr ⟨o,k02 _ _ e id (fun kvs z=>by cases z)⟩)
     · exact .inr h
   refine ⟨_,rfl,_,rfl,a,ns,_,rfl,ha2,by omega,by omega,fun g H3 hg s23 P3=> ?_⟩;refine ⟨_,rfl,(show 2<=sizeLine by decide),fun e he=> ?_⟩;have s4:e8 H3 (c9 H3 e (.lst [V.int 10,V.int 13])):=e8.upd_new he;have h4:(c9 H3 e (.lst [V.int 10,V.int 13])) e=some (.lst [V.int 10,V.int 13]):=c8;generalize (c9 H3 e (.lst [V.int 10,V.int 13]))=H4 at s4 h4 ⊢;have P4:=x9 P3 s4
   have at2:∀b:Bool,∃y:Nat,atI [V.int 10,V.int 13] (if b=true then 1 else 0)=some (.int (y:Int))/\1<=y/\y<=13:=fun b=>by
     cases b with
     |true=>exact ⟨13,K1 (j:=1) rfl,by decide,by decide⟩
     |false=>exact ⟨10,K1 (j:=0) rfl,by decide,by decide⟩
   obtain ⟨y,hy,y1,y2⟩:=at2 (decide (V.int ((0:Int)+(i:Int))=V.int 0));refine ⟨_,rfl,rfl,_,rfl,e,_,_,_,rfl,rfl,i5.of h4,hy,g,_,_,rfl,P4,by decide,by omega,by omega,fun r H5 r0 r1 P5 kb5=> ?_⟩;obtain ⟨n,rfl⟩:=dz2 r0;refine ⟨_,rfl,_,rfl,_,rfl,g,_,rfl,P5,by decide,fun m H6 m1 m2 P6 kb6=>⟨g,n,m,_,rfl,P6,by decide,by omega,m1,m2,fun H7 P7 kb7=>⟨true,rfl,G5 ?_⟩⟩⟩;refine ⟨_,rfl,_,rfl,g,_,5,rfl,P7,by decide,by decide,by decide,fun r2 H8 b0 b1 P8 kb8=> ?_⟩;obtain ⟨n2,rfl⟩:=dz2 b0;refine ⟨_,rfl,g,_,rfl,P8,by decide,fun z H9 z1 z2 P9 kb9=>⟨g,n2,z,_,rfl,P9,by decide,by omega,z1,z2,fun H10 k10=>⟨true,rfl,G5 ?_⟩⟩⟩;refine ⟨_,_,_,rfl,fun x u hx _ nu=> ?_⟩;have h2:=k02 x u hx id nu;have nx:x≠g:=g6 h2 hg;exact k10 x u (kb9 _ _ (kb8 _ _ (kb7 _ _ (kb6 _ _ (kb5 _ _ (s4 _ _ (s23 _ _ h2)) nx) nx) nx) nx) nx) nx nu
end
end My
namespace My
open PySem L2 Mth
theorem S2 {P:List Value->Prop}(h:∀x0,P [x0]):∀us:List Value,us.length=1->P us
 |[_],_=>h _
theorem bn2 {P:List Value->Prop}(h:∀x0 x1,P [x0,x1]):∀us:List Value,us.length=2->P us
 |[_,_],_=>h _ _
theorem bn3 {P:List Value->Prop}(h:∀x0 x1 x2,P [x0,x1,x2]):∀us:List Value,us.length=3->P us
 |[_,_,_],_=>h _ _ _
theorem dr9 {l:PySem.W.OpenLaw}{w:World}{K:PySem.W.Frag}{h:Heap}{mg:Str->Option Value}{fa f0 f1 f2 f3 f4 f5 f6 f7 f8 f9 f10 f11 f12 f13 f14 f15 f16 f17 f18 f19 f20 f21 f22 f23 f24 f25 f26 f27 f28 f29 f30 f31 f32 f33 f34 f35 f36 f37 f38 f39 f40 f41 f42 f43:Addr}{tk0 tk1 tk2:Tok}(X:K.In h)(G:h.Ns mainGlobals mg)(hfa:mg "law"=some (.ref fa))
   (u0:Fu K "is_whole" ak7 f0)
   (u1:Fu K "must_be_from_one" O7 f1)
   (u2:Fu K "must_be_few" Z0 f2)
   (u3:Fu K "greatest_part" U7 f3)
   (u4:Fu K "walk_ring" ag3 f4)
   (u5:Fu K "walk_rings" ad4 f5)
   (u6:Fu K "send_along" O8 f6)
   (u7:Fu K "sort_by_length" S7 f7)
   (u8:Fu K "picks_of" ak8 f8)
   (u9:Fu K "lay_every_way" U8 f9)
   (u10:Fu K "is_turn" ao3 f10)
   (u11:Fu K "must_be_turn" X0 f11)
   (u12:Fu K "rounds_of" ag4 f12)
   (u13:Fu K "are_filled_lists" O9 f13)
   (u14:Fu K "things_in" ag5 f14)
   (u15:Fu K "from_rounds" Z1 f15)
   (u16:Fu K "least_right" Z2 f16)
   (u17:Fu K "join_rings" ad5 f17)
   (u18:Fu K "root_told" ag6 f18)
   (u19:Fu K "right_numbers" U9 f19)
   (u20:Fu K "ways_to_follow" S8 f20)
   (u21:Fu K "count_joins" Z3 f21)
   (u22:Fu K "how_many_roots" S9 f22)
   (u23:Fu K "chains_of" ag7 f23)
   (u24:Fu K "ways_to_join" Q6 f24)
   (u25:Fu K "all_roots" ag8 f25)
   (u26:Fu K "how_many_past" V0 f26)
   (u27:Fu K "must_be_counted" R3 f27)
   (u28:Fu K "kinds_below" S3 f28)
   (u29:Fu K "kinds_of" ak9 f29)
   (u30:Fu K "is_kind" ao4 f30)
   (u31:Fu K "one_of_kind" Z4 f31)
   (u32:Fu K "orders_of" ag9 f32)
   (u33:Fu K "how_many_of" Z5 f33)
   (u34:Fu K "how_many_have" V1 f34)
   (u35:Fu K "how_many_home" V2 f35)
   (u36:Fu K "_law_pool" al0 f36)
   (u37:Fu K "_law_take" al1 f37)
   (u38:Fu K "_law_product" Z6 f38)
   (u39:Fu K "_law_times" ah0 f39)
   (u40:Fu K "_law_turn_of" Z7 f40)
   (u41:Fu K "_law_right" ah1 f41)
   (u42:Fu K "_law_few_right" V3 f42)
   (u43:Fu K "law" ar6 f43)
   (m0:PySem.W.nsIn K mainGlobals "MOST_COUNTED"=some (some (.int 12 tk0)))
   (m1:PySem.W.nsIn K mainGlobals "MOST_THINGS"=some (some (.int 40 tk1)))
   (m2:PySem.W.nsIn K mainGlobals "MOST_TOLD"=some (some (.int 2000 tk2)))
   (zz:Fre K ["len","isinstance","int","bool","list","range","sum","min","max","enumerate","zip","sorted","tuple","str","repr","all","any","set","dict","ValueError"])
   :∃fd:FuncData,(∀(s:Shared) (v:Value),BindsTo s fd ⟨[v],[]⟩ [("script",v)])/\∀base:Heap,K.In base->base.Ns mainGlobals mg->o7 l.prog w K mg base x5 46 fa fd ["script"] (bm3 K):=by
 obtain ⟨d0,a0,F0⟩:=u0;obtain ⟨d1,a1,F1⟩:=u1;obtain ⟨d2,a2,F2⟩:=u2;obtain ⟨d3,a3,F3⟩:=u3;obtain ⟨d4,a4,F4⟩:=u4;obtain ⟨d5,a5,F5⟩:=u5;obtain ⟨d6,a6,F6⟩:=u6;obtain ⟨d7,a7,F7⟩:=u7;obtain ⟨d8,a8,F8⟩:=u8;obtain ⟨d9,a9,F9⟩:=u9;obtain ⟨d10,a10,F10⟩:=u10;obtain ⟨d11,a11,F11⟩:=u11;obtain ⟨d12,a12,F12⟩:=u12;obtain ⟨d13,a13,F13⟩:=u13;obtain ⟨d14,a14,F14⟩:=u14;obtain ⟨d15,a15,F15⟩:=u15;obtain ⟨d16,a16,F16⟩:=u16;obtain ⟨d17,a17,F17⟩:=u17;obtain ⟨d18,a18,F18⟩:=u18;obtain ⟨d19,a19,F19⟩:=u19;obtain ⟨d20,a20,F20⟩:=u20;obtain ⟨d21,a21,F21⟩:=u21;obtain ⟨d22,a22,F22⟩:=u22;obtain ⟨d23,a23,F23⟩:=u23;obtain ⟨d24,a24,F24⟩:=u24;obtain ⟨d25,a25,F25⟩:=u25;obtain ⟨d26,a26,F26⟩:=u26;obtain ⟨d27,a27,F27⟩:=u27;obtain ⟨d28,a28,F28⟩:=u28;obtain ⟨d29,a29,F29⟩:=u29;obtain ⟨d30,a30,F30⟩:=u30;obtain ⟨d31,a31,F31⟩:=u31;obtain ⟨d32,a32,F32⟩:=u32;obtain ⟨d33,a33,F33⟩:=u33;obtain ⟨d34,a34,F34⟩:=u34;obtain ⟨d35,a35,F35⟩:=u35;obtain ⟨d36,a36,F36⟩:=u36;obtain ⟨d37,a37,F37⟩:=u37;obtain ⟨d38,a38,F38⟩:=u38;obtain ⟨d39,a39,F39⟩:=u39;obtain ⟨d40,a40,F40⟩:=u40;obtain ⟨d41,a41,F41⟩:=u41;obtain ⟨d42,a42,F42⟩:=u42;obtain ⟨d43,a43,F43⟩:=u43;have e:=hfa.symm.trans (PySem.W.mg_of X G a43);cases e;obtain ⟨z0,z1,z2,z3,z4,z5,z6,z7,z8,z9,z10,z11,z12,z13,z14,z15,z16,z17,z18,z19,_⟩:=zz;have zn {y:Str} (z:PySem.W.nsIn K mainGlobals y=some none):=PySem.W.mg_none_of X G z;have B:Bl mg:=⟨zn z0,zn z1,zn z2,zn z3,zn z4,zn z5,zn z6,zn z7,zn z8,zn z9,zn z10,zn z11,zn z12,zn z13,zn z14,zn z15,zn z16,zn z17,zn z18,zn z19⟩;have zpx:∃t,mg "MOST_COUNTED"=some (.int 12 t):=⟨_,PySem.W.mg_of X G m0⟩;have mt:∃t,mg "MOST_THINGS"=some (.int 40 t):=⟨_,PySem.W.mg_of X G m1⟩;have zly:∃t,mg "MOST_TOLD"=some (.int 2000 t):=⟨_,PySem.W.mg_of X G m2⟩
 have b0:=F0.binds (ps:=["thing"]) fun _ _ _ _ _ _=>S2 fun _=>rfl
 have b1:=F1.binds (ps:=["number"]) fun _ _ _ _ _ _=>S2 fun _=>rfl
 have b2:=F2.binds (ps:=["many"]) fun _ _ _ _ _ _=>S2 fun _=>rfl
 have b3:=F3.binds (ps:=["a","b"]) fun _ _ _ _ _ _=>bn2 fun _ _=>rfl
 have b4:=F4.binds (ps:=["p","first"]) fun _ _ _ _ _ _=>bn2 fun _ _=>rfl
 have b5:=F5.binds (ps:=["p"]) fun _ _ _ _ _ _=>S2 fun _=>rfl
 have b6:=F6.binds (ps:=["target","ring","steps"]) fun _ _ _ _ _ _=>bn3 fun _ _ _=>rfl
 have b7:=F7.binds (ps:=["rings"]) fun _ _ _ _ _ _=>S2 fun _=>rfl
 have b8:=F8.binds (ps:=["rings"]) fun _ _ _ _ _ _=>S2 fun _=>rfl
 have b9:=F9.binds (ps:=["p","choices"]) fun _ _ _ _ _ _=>bn2 fun _ _=>rfl
 have b10:=F10.binds (ps:=["thing"]) fun _ _ _ _ _ _=>S2 fun _=>rfl
 have b11:=F11.binds (ps:=["thing"]) fun _ _ _ _ _ _=>S2 fun _=>rfl
 have b12:=F12.binds (ps:=["p"]) fun _ _ _ _ _ _=>S2 fun _=>rfl
 have b13:=F13.binds (ps:=["rounds"]) fun _ _ _ _ _ _=>S2 fun _=>rfl
 have b14:=F14.binds (ps:=["rounds"]) fun _ _ _ _ _ _=>S2 fun _=>rfl
 have b15:=F15.binds (ps:=["rounds"]) fun _ _ _ _ _ _=>S2 fun _=>rfl
 have b16:=F16.binds (ps:=["l","m"]) fun _ _ _ _ _ _=>bn2 fun _ _=>rfl
 have b17:=F17.binds (ps:=["rings","m"]) fun _ _ _ _ _ _=>bn2 fun _ _=>rfl
 have b18:=F18.binds (ps:=["p","m"]) fun _ _ _ _ _ _=>bn2 fun _ _=>rfl
 have b19:=F19.binds (ps:=["length","m","most"]) fun _ _ _ _ _ _=>bn3 fun _ _ _=>rfl
 have b20:=F20.binds (ps:=["left","part","length"]) fun _ _ _ _ _ _=>bn3 fun _ _ _=>rfl
 have b21:=F21.binds (ps:=["length","many","m"]) fun _ _ _ _ _ _=>bn3 fun _ _ _=>rfl
 have b22:=F22.binds (ps:=["p","m"]) fun _ _ _ _ _ _=>bn2 fun _ _=>rfl
 have b23:=F23.binds (ps:=["rings","part"]) fun _ _ _ _ _ _=>bn2 fun _ _=>rfl
 have b24:=F24.binds (ps:=["rings","right","m"]) fun _ _ _ _ _ _=>bn3 fun _ _ _=>rfl
 have b25:=F25.binds (ps:=["p","m"]) fun _ _ _ _ _ _=>bn2 fun _ _=>rfl
 have b26:=F26.binds (ps:=["p"]) fun _ _ _ _ _ _=>S2 fun _=>rfl
 have b27:=F27.binds (ps:=["n"]) fun _ _ _ _ _ _=>S2 fun _=>rfl
 have b28:=F28.binds (ps:=["n","most"]) fun _ _ _ _ _ _=>bn2 fun _ _=>rfl
 have b29:=F29.binds (ps:=["n"]) fun _ _ _ _ _ _=>S2 fun _=>rfl
 have b30:=F30.binds (ps:=["thing"]) fun _ _ _ _ _ _=>S2 fun _=>rfl
 have b31:=F31.binds (ps:=["kind"]) fun _ _ _ _ _ _=>S2 fun _=>rfl
 have b32:=F32.binds (ps:=["n"]) fun _ _ _ _ _ _=>S2 fun _=>rfl
 have b33:=F33.binds (ps:=["kind"]) fun _ _ _ _ _ _=>S2 fun _=>rfl
 have b34:=F34.binds (ps:=["n","m"]) fun _ _ _ _ _ _=>bn2 fun _ _=>rfl
 have b35:=F35.binds (ps:=["n","m"]) fun _ _ _ _ _ _=>bn2 fun _ _=>rfl
 have b36:=F36.binds (ps:=["script","k"]) fun _ _ _ _ _ _=>bn2 fun _ _=>rfl
 have b37:=F37.binds (ps:=["pool","many"]) fun _ _ _ _ _ _=>bn2 fun _ _=>rfl
 have b38:=F38.binds (ps:=["many"]) fun _ _ _ _ _ _=>S2 fun _=>rfl
 have b39:=F39.binds (ps:=["pool"]) fun _ _ _ _ _ _=>S2 fun _=>rfl
 have b40:=F40.binds (ps:=["pool","kind"]) fun _ _ _ _ _ _=>bn2 fun _ _=>rfl
 have b41:=F41.binds (ps:=["pool","many","times"]) fun _ _ _ _ _ _=>bn3 fun _ _ _=>rfl
 have b42:=F42.binds (ps:=["pool","many","times"]) fun _ _ _ _ _ _=>bn3 fun _ _ _=>rfl
 obtain ⟨oc,od,kV,dc,pm,an,cd,ct,sl,rfl,lk,hcd⟩:=id F43.ex;refine ⟨PySem.W.fnOf "law" "law" (ab1 ar6) (W2 ar6) (j5 ar6) .none kV dc pm an cd ct,fun s v=> .of_eq rfl,fun base _ _=> ?_⟩;have zuz:j7 l.prog w K mg base "is_whole" 1 ["thing"] (ab3 K):=o4 X G a0 F0 b0 (cs9 F0 B);have zyz:j7 l.prog w K mg base "must_be_from_one" 2 ["number"] ar7:=o4 X G a1 F1 b1 (di3 F1 zuz);have zmz:j7 l.prog w K mg base "must_be_few" 1 ["many"] bu8:=o4 X G a2 F2 b2 (bg2 F2 zly);have ztx:j7 l.prog w K mg base "greatest_part" 1 ["a","b"] bl9:=o4 X G a3 F3 b3 (di2 F3);have zex:j7 l.prog w K mg base "walk_ring" 1 ["p","first"] br6:=o4 X G a4 F4 b4 (db6 F4);have zyx:j7 l.prog w K mg base "walk_rings" 2 ["p"] Q7:=o4 X G a5 F5 b5 (ct0 F5 B zex);have zvz:j7 l.prog w K mg base "send_along" 1 ["target","ring","steps"] (bq2 ao7 as1):=o4 X G a6 F6 b6 (dl9 (db7 F6 B) (bl4 F6 B));have zzx:j7 l.prog w K mg base "sort_by_length" 1 ["rings"] ab5:=o4 X G a7 F7 b7 (ct5 F7 B);have zkz:j7 l.prog w K mg base "picks_of" 1 ["rings"] bf8:=o4 X G a8 F8 b8 (bx6 F8 B);have zqz:j7 l.prog w K mg base "lay_every_way" 1 ["p","choices"] cg0:=o4 X G a9 F9 b9 (ax4 F9 B);have zg:j7 l.prog w K mg base "is_turn" 2 ["thing"] al2:=o4 X G a10 F10 b10 (cm9 F10 B mt zuz);have zxz:j7 l.prog w K mg base "must_be_turn" 3 ["thing"] ao5:=o4 X G a11 F11 b11 (db3 F11 zg);have zd:j7 l.prog w K mg base "rounds_of" 4 ["p"] Q7:=o4 X G a12 F12 b12 (bx2 F12 zxz zyx);have zjz:j7 l.prog w K mg base "are_filled_lists" 1 ["rounds"] av8:=o4 X G a13 F13 b13 (cn0 F13 B);have zdz:j7 l.prog w K mg base "things_in" 1 ["rounds"] av9:=o4 X G a14 F14 b14 (cn1 F14);have zxx:j7 l.prog w K mg base "from_rounds" 3 ["rounds"] ao8:=o4 X G a15 F15 b15 (db8 F15 zjz zdz zg (dm0 zvz));have zgx:j7 l.prog w K mg base "least_right" 3 ["l","m"] ct2:=o4 X G a16 F16 b16 (dm7 F16 zyz ztx);have zv:j7 l.prog w K mg base "join_rings" 1 ["rings","m"] ao9:=o4 X G a17 F17 b17 (db9 F17 B);have zlz:j7 l.prog w K mg base "root_told" 5 ["p","m"] bs6:=o4 X G a18 F18 b18 (dc0 F18 B zd zzx zyz zgx zv zxx);have zxy:j7 l.prog w K mg base "right_numbers" 2 ["length","m","most"] al3:=o4 X G a19 F19 b19 (aw5 F19 B ztx);have zr:j7 l.prog w K mg base "ways_to_follow" 1 ["left","part","length"] aw6:=o4 X G a20 F20 b20 (as5 F20 B);have zny:j7 l.prog w K mg base "count_joins" 3 ["length","many","m"] bf2:=o4 X G a21 F21 b21 (bf3 F21 B zxy zr);have zzz:j7 l.prog w K mg base "how_many_roots" 4 ["p","m"] aj2:=o4 X G a22 F22 b22 (as6 F22 B zxz zyz zzx zyx zny);have ztz:j7 l.prog w K mg base "chains_of" 2 ["rings","part"] al6:=o4 X G a23 F23 b23 (bu0 F23 B zkz)
 have w_ways_to_join:∀d:Nat,j7 l.prog w K mg base "ways_to_join" (d+3) ["rings","right","m"] (aj3 d):=fun d=>by
   induction d with
   |zero=>exact o4 X G a24 F24 b24 (bc0 F24 B ztz zv zvz)
   |succ d ih=>exact o4 X G a24 F24 b24 (ax3 F24 B ztz zv ih zvz)
 have zuy:j7 l.prog w K mg base "ways_to_join" 43 ["rings","right","m"] (aj3 40):=w_ways_to_join 40;have zlx:j7 l.prog w K mg base "all_roots" 44 ["p","m"] bu9:=o4 X G a25 F25 b25 (bv0 F25 B zzz zmz zzx zyx zuy zxy zqz);have zrx:j7 l.prog w K mg base "how_many_past" 4 ["p"] cf4:=o4 X G a26 F26 b26 (aw2 F26 B zxz zzx zyx);have zx:j7 l.prog w K mg base "must_be_counted" 2 ["n"] af6:=o4 X G a27 F27 b27 (ap1 F27 zpx zuz)
 have w_kinds_below:∀d:Nat,j7 l.prog w K mg base "kinds_below" (d+1) ["n","most"] (ab6 d):=fun d=>by
   induction d with
   |zero=>exact o4 X G a28 F28 b28 (be7 F28 B)
   |succ d ih=>exact o4 X G a28 F28 b28 (bb2 F28 B ih)
 have zt:j7 l.prog w K mg base "kinds_below" 13 ["n","most"] (ab6 12):=w_kinds_below 12;have zwx:j7 l.prog w K mg base "kinds_of" 14 ["n"] Y1:=o4 X G a29 F29 b29 (bx4 F29 zx zt);have zkx:j7 l.prog w K mg base "is_kind" 2 ["thing"] aw3:=o4 X G a30 F30 b30 (cf6 F30 B mt zuz);have zvy:j7 l.prog w K mg base "one_of_kind" 4 ["kind"] ar8:=o4 X G a31 F31 b31 (be8 F31 B zxx);have zl:j7 l.prog w K mg base "orders_of" 1 ["n"] T0:=o4 X G a32 F32 b32 (bs7 F32 B);have zwz:j7 l.prog w K mg base "how_many_of" 5 ["kind"] ar9:=o4 X G a33 F33 b33 (bf0 F33 B zkx zl zrx zvy);have zqy:j7 l.prog w K mg base "how_many_have" 15 ["n","m"] bt4:=o4 X G a34 F34 b34 (aw8 F34 B zwx zyz (ct6 zlz) zvy zwz);have zqx:j7 l.prog w K mg base "how_many_home" 5 ["n","m"] bf4:=o4 X G a35 F35 b35 (ax0 F35 B zx zzz);have zky:j7 l.prog w K mg base "_law_pool" 1 ["script","k"] (br3 K):=o4 X G a36 F36 b36 (db4 F36 B);have zzy:j7 l.prog w K mg base "_law_take" 1 ["pool","many"] ao6:=o4 X G a37 F37 b37 (db5 F37);have zu:j7 l.prog w K mg base "_law_product" 1 ["many"] T0:=o4 X G a38 F38 b38 (bf5 F38 B);have znz:j7 l.prog w K mg base "_law_times" 2 ["pool"] bf6:=o4 X G a39 F39 b39 (bt6 F39 B zzy);have zvx:j7 l.prog w K mg base "_law_turn_of" 4 ["pool","kind"] am4:=o4 X G a40 F40 b40 (bg8 F40 B zzy zxx);have zk:j7 l.prog w K mg base "_law_right" 16 ["pool","many","times"] bg9:=o4 X G a41 F41 b41 (bv7 F41 B zwx zzz zvx zwz zu zqy zqx);have zpz:j7 l.prog w K mg base "_law_few_right" 45 ["pool","many","times"] cg5:=o4 X G a42 F42 b42 (ay0 F42 B zwx zvx zlx zzz zu);exact dj6 F43 B zky zzy zk znz zpz
theorem ds0 {l:PySem.W.OpenLaw}{q:Program}{loose:List Str}{XP:(Str->Option Value)->Heap->Prop}{YP:World->Heap->Prop}{d:DefRec}{K:Params->PySem.W.Frag}(hn:l.most=some 63)(hdf:d.params.defaults=[])
   (hY:∀(w:World) (h:Heap),YP w h->(K w.params).In h)
   (F:∀(w:World) (mg:Str->Option Value) (fa:Addr) (h:Heap),(K w.params).In h->h.Ns mainGlobals mg->mg d.name=some (.ref fa)->
     ∃fd:FuncData,(∀(s:Shared) (u:Value),BindsTo s fd ⟨[u],[]⟩ [("script",u)])/\∀base:Heap,(K w.params).In base->base.Ns mainGlobals mg->o7 l.prog w (K w.params) mg base x5 46 fa fd ["script"] (bm3 (K w.params))):
   PySem.W.WalkO q loose XP YP l.row.toRowW d [] (fun f vs=>PySem.call f vs):=
 L2.dq8 (n:=63) (k:=46) (x:="script") (CX:=fun _=>x5) (sp:=fun w=>bm3 (K w.params)) hn (by decide) hdf ⟨rfl,by decide,by decide,rfl⟩ hY F (fun _ _ a ns hl _ hS=>⟨a,ns,rfl,hS,hl,fun _=>rfl⟩) fun _ _ _ _ _ z=>z
end My
end
def PySem.W.Fast.tw9731592444392381512 : Unit := ()
def PySem.W.Fast.tw17529841053038362348 : Unit := ()
def PySem.W.Fast.tw11345183439279970084 : Unit := ()
def PySem.W.Fast.tw6709809541302377961 : Unit := ()
def PySem.W.Fast.tw2372526349604335198 : Unit := ()
def PySem.W.Fast.tw7792694896698628301 : Unit := ()
def PySem.W.Fast.tw14868943115247484723 : Unit := ()
def PySem.W.Fast.tw18127948451970313639 : Unit := ()
def PySem.W.Fast.tw10771415251346972047 : Unit := ()
def PySem.W.Fast.tw12560301454983928699 : Unit := ()
def PySem.W.Fast.tw12778705994074120179 : Unit := ()
abbrev PySem.W.Fast.tw8397205761106328511:PySem.Program:=PySem.Challenge.pw_turnroots_k45_whole_roots_of_all
theorem PySem.W.Fast.te8397205761106328511:PySem.Challenge.pw_turnroots_k45_whole_roots_of_all=PySem.W.Fast.tw8397205761106328511:=rfl
abbrev PySem.W.Fast.tw90343872475197607:Type:=PySem.Params
theorem PySem.W.Fast.te90343872475197607:PySem.Params=PySem.W.Fast.tw90343872475197607:=rfl
open PySem PySem.W PyProof.Rows L2
set_option maxRecDepth 100000 in
set_option maxHeartbeats 0 in
theorem PySem.Challenge.cw_turnroots_k45_whole_roots_of_all_holds : PySem.Challenge.rw_turnroots_k45_whole_roots_of_all.Holds := by
  w_on; o_law; k_head; (case hw => w_witness2)
  k_fill
  refine My.ds0 (l := PySem.Challenge.rw_turnroots_k45_whole_roots_of_all) rfl rfl (fun w h Y => PySem.W.kIn_of Y) ?F
  case F =>
    intro w mg fa h KX G hmg
    refine' My.dr9 KX G hmg ?_ ?_ ?_ ?_ ?_ ?_ ?_ ?_ ?_ ?_ ?_ ?_ ?_ ?_ ?_ ?_ ?_ ?_ ?_ ?_ ?_ ?_ ?_ ?_ ?_ ?_ ?_ ?_ ?_ ?_ ?_ ?_ ?_ ?_ ?_ ?_ ?_ ?_ ?_ ?_ ?_ ?_ ?_ ?_ ?_ ?_ ?_ ?_
    all_goals first
      | k_is
      | (refine' dm5 ?a ?l ?c ?k; (case a => k_is); (case l => k_is); (case c => k_is); (case k => k_is))
      | ((repeat (refine' And.intro (ClF.mk ?n ?e ?g ?h ?c ?b ?o ?i ?t ?u ?v ?s) ?_; (case n => k_is); (case e => k_exc); (case g => k_is); (case h => k_is); (case c => k_is); (case b => k_is); (case o => k_is); (case i => k_is); (case t => k_is); (case u => k_is); (case v => k_is); (case s => k_is))); exact trivial)
      | ((repeat (refine' And.intro ?n ?_; (case n => k_is))); exact trivial)
      | ((repeat (refine' And.intro ?zp ?_; (case zp => ((repeat (refine' And.intro ?n ?_; (case n => k_is))); exact trivial)))); exact trivial)
      | skip
#print axioms PySem.Challenge.cw_turnroots_k45_whole_roots_of_all_holds
